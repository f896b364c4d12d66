/- Contracts of the document's own digest: the words, the state behind a block. -/
import Derived.Test.YtnpidcehioljaaaDoorShaE
namespace Go.Proofs.YtnpidcehioljaaaDoor.Sha
open Go Go.RowKit Kit

theorem fTurn_nat (x : UInt32) (k : Nat) (w : World) (h : 1 ≤ k) (hk : k ≤ 31) :
    Calls Tryd.prog 30 #[.int .u32 (cw x), .int .u64 k] w fun e w' => e = .returned (.int .u32 (cw (rotr x k))) ∧ w = w' := by
  obtain ⟨j, hj⟩ : ∃ j, j = 32 - k := ⟨_, rfl⟩
  have hj1 : j ≤ 32 := by omega
  have hs1 : IntKind.u32.wrap (cw x * 2 ^ j) = cw (x <<< UInt32.ofNat j) := cw_shl x j (by omega)
  have hs2 : cw x / 2 ^ k = cw (x >>> UInt32.ofNat k) := cw_shr x k (by omega)
  have h64 : IntKind.u64.wrap (32 - (k : Int)) = (j : Int) := by rw [IntKind.wrap_u64]; omega
  have h65 : (32 - (k : Int)) = (j : Int) := by omega
  have hm1 : min j 32 = j := by omega
  have hm2 : min k 32 = k := by omega
  have HR := Lib.hid (show rotr x k = x >>> UInt32.ofNat k ||| x <<< UInt32.ofNat j by rw [rotr, hj])
  clear hj
  go_enter Tryd.func30, Tryd.ntmps30
  go_wp2
  go_ret
  rw [HR.out]
  exact ⟨rfl, rfl⟩
theorem fTurn (x : UInt32) (i : Int) (w : World) (h : 1 ≤ i) (hk : i ≤ 31) :
    Calls Tryd.prog 30 #[.int .u32 (cw x), .int .u64 i] w fun e w' => e = .returned (.int .u32 (cw (rotr x i.toNat))) ∧ w = w' := by
  obtain ⟨k, rfl⟩ := Int.eq_ofNat_of_zero_le (a := i) (by omega)
  exact fTurn_nat x k w (by omega) (by omega)
theorem fThree (x : UInt32) (i j k : Int) (w : World) (h1 : 1 ≤ i ∧ i ≤ 31) (h2 : 1 ≤ j ∧ j ≤ 31) (h3 : 1 ≤ k ∧ k ≤ 31) :
    Calls Tryd.prog 31 #[.int .u32 (cw x), .int .u64 i, .int .u64 j, .int .u64 k] w fun e w' => e = .returned (.int .u32 (cw (three x i.toNat j.toNat k.toNat))) ∧ w = w' := by
  go_enter Tryd.func31, Tryd.ntmps31
  go_wp2_with fail
  refine (fTurn x i _ h1.1 h1.2).mono ?_
  rintro e w4 ⟨rfl, rfl⟩
  go_wp2_with fail
  refine (fTurn x j _ h2.1 h2.2).mono ?_
  rintro e w4 ⟨rfl, rfl⟩
  go_wp2_with fail
  refine (fTurn x k _ h3.1 h3.2).mono ?_
  rintro e w4 ⟨rfl, rfl⟩
  go_wp2
  go_ret
  exact ⟨rfl, rfl⟩

set_option maxHeartbeats 1000000 in
set_option maxRecDepth 100000 in
theorem fNumbers (w : World) :
    Calls Tryd.prog 22 #[] w fun e w' => e = .returned (.agg (uvs Ks).toArray) ∧ Kp nob w w' := by
  have hK := Lib.hid (show (uvs Ks).length = 64 by rfl)
  go_enter Tryd.func22, Tryd.ntmps22
  go_wp2_with (first
    | (refine wpList_built rfl 55 _ rfl (.agg (uvs Ks).toArray) (by kernel_rfl) ?_)
    | (refine wpList_store_new rfl 55 (.tmp 0) (.tmp 1) rfl _ (uvs Ks) rfl rfl rfl (by kernel_rfl) (uvs_one _) ?_; intro w2 hB2 k2 z2))
  refine bodyPost_ret (results_cell_row rfl _ _ w.heap.size _ _ _ _ rfl hB2 arr32 rfl (by kernel_rfl)) rfl ⟨rfl, k2⟩

theorem words_set (l : List UInt8) (k : Nat) (x : UInt32) (hk : k < 16) (hx : words l (k + 1) = words l k ++ [x]) :
    (uvs (words l k ++ List.replicate (64 - k) 0)).set k (uv x) = uvs (words l (k + 1) ++ List.replicate (64 - (k + 1)) 0) := by
  have hl := words_length l k
  rw [hx, show 64 - k = (64 - (k + 1)) + 1 by omega, List.replicate_succ]
  simp only [uvs, List.map_append, List.map_cons, List.append_assoc, List.cons_append, List.nil_append]
  rw [List.set_append_right _ _ (by simp; omega)]
  simp [hl]
set_option maxHeartbeats 4000000 in
set_option maxRecDepth 100000 in
theorem fNext (s : St) (A : Option Addr) (c : Nat) (l : List UInt8) (w : World) (hl : l.length = 64) (hr : Row w A (bvs l)) :
    Calls Tryd.prog 23 #[.agg (uvs s.list).toArray, .slice A 64 c, .agg (uvs Ks).toArray] w fun e w' => e = .returned (.agg (uvs (next s l).list).toArray) ∧ Kp nob w w' := by
  obtain ⟨bb, oo, rfl, hbb, hcc⟩ := hr.at_ (i := 0) (by simp; omega)
  clear hcc
  have HR := Lib.hid hr; have HL := Lib.hid hl; clear hl hr
  go_enter Tryd.func23, Tryd.ntmps23
  go_wp2
  go_loopw [8] (fun vi wr => ∃ k : Nat, k ≤ 16 ∧ vi = .int .i64 k ∧ Blk wr w.heap.size 53 (uvs s.list) ∧ Blk wr (w.heap.size + 1) 55 (uvs Ks) ∧ (∃ z, Blk wr (w.heap.size + 2) 53 z ∧ z.length = 8) ∧ Blk wr (w.heap.size + 3) 55 (uvs (words l k ++ List.replicate (64 - k) 0)) ∧ Kp nob w wr)
    (fun vi _ => 16 - (intOf vi).toNat)
  case atStart =>
    exact ⟨0, by omega, rfl, (((Blk.new' rfl rfl).alloc _).alloc _).alloc _, ((Blk.new' (by simp) rfl).alloc _).alloc _, ⟨_, (Blk.new' (by simp) rfl).alloc _, rfl⟩, Blk.new' (by simp) (by rw [show words l 0 = [] from List.eq_nil_of_length_eq_zero (words_length l 0)]; rfl), ((((Kp.refl _ _).alloc _).alloc _).alloc _).alloc _⟩
  case round =>
    obtain ⟨k, hk, rfl, h0, h1, ⟨z, h2, hz⟩, h3, hkp⟩ := hrel
    have H0 := Lib.hid h0; have H1 := Lib.hid h1; have H2 := Lib.hid h2; have H3 := Lib.hid h3; have HZ := Lib.hid hz
    clear h0 h1 h2 h3 hz
    by_cases hlt : k < 16
    · have hl := HL.out
      have hrow := HR.out.keep0 hkp
      have hcell : ∀ j (hj : j < 64), wr.cell? ⟨bb, oo + j, none⟩ = some (.int .u8 (l[j]'(by omega)).toNat) := fun j hj => by
        obtain ⟨b', o', e, _, hc⟩ := hrow.at_ (i := j) (by simp; omega)
        cases e
        rw [hc]; simp [bvs, bv]
      obtain ⟨x0, hx0⟩ : ∃ x, x = l[4 * k]'(by omega) := ⟨_, rfl⟩
      obtain ⟨x1, hx1⟩ : ∃ x, x = l[4 * k + 1]'(by omega) := ⟨_, rfl⟩
      obtain ⟨x2, hx2⟩ : ∃ x, x = l[4 * k + 2]'(by omega) := ⟨_, rfl⟩
      obtain ⟨x3, hx3⟩ : ∃ x, x = l[4 * k + 3]'(by omega) := ⟨_, rfl⟩
      have hc0 := hcell (4 * k) (by omega)
      have hc1 := hcell (4 * k + 1) (by omega)
      have hc2 := hcell (4 * k + 2) (by omega)
      have hc3 := hcell (4 * k + 3) (by omega)
      rw [← hx0] at hc0
      rw [← hx1] at hc1
      rw [← hx2] at hc2
      rw [← hx3] at hc3
      have hw := words_snoc l k
      simp only [List.getD, List.getElem?_eq_getElem (show 4 * k < l.length by omega), List.getElem?_eq_getElem (show 4 * k + 1 < l.length by omega), List.getElem?_eq_getElem (show 4 * k + 2 < l.length by omega), List.getElem?_eq_getElem (show 4 * k + 3 < l.length by omega), Option.getD_some, ← hx0, ← hx1, ← hx2, ← hx3] at hw
      have hcm : wr.cell? ⟨w.heap.size + 3, k, none⟩ = some (.int .u32 0) := by
        rw [H3.out.cell, uvs, List.map_append, List.getElem?_append_right (by simp [words_length]), List.getElem?_map, List.getElem?_replicate, if_pos (by simp [words_length]; omega)]; rfl
      have hf : wr.frozen? ⟨w.heap.size + 3, k, none⟩ = false := H3.out.frozen _
      have HW := Lib.hid hw
      have hk4 : (4 * k + 3 : Nat) < 64 := by omega
      clear hw hcell hx0 hx1 hx2 hx3 hl
      go_wp2
      go_region
      go_wp2
      rw [word_sum]
      refine ⟨?rel, by simp [intOf]; omega⟩
      case rel =>
        refine ⟨k + 1, by omega, by go_num, (H0.out.far (by simp; omega) _).keep (Kp.refl nob _).drew (fun e => e), (H1.out.far (by simp) _).keep (Kp.refl nob _).drew (fun e => e), ⟨z, (H2.out.far (by simp) _).keep (Kp.refl nob _).drew (fun e => e), HZ.out⟩, ?_, (hkp.setCell (p := ⟨w.heap.size + 1 + 1 + 1, k, none⟩) (.inr (by simp; omega)) _).drew⟩
        have := (H3.out.set_ k (uv (word x0 x1 x2 x3))).keep (Kp.refl nob _).drew (fun e => e)
        rw [words_set l k _ hlt HW.out] at this
        exact this
    · have HK : Hid (k = 16) := Lib.hid (by omega)
      go_wp2
      go_loopw [9] (fun vi wr => ∃ m : Nat, 16 ≤ m ∧ m ≤ 64 ∧ vi = .int .i64 m ∧ Blk wr w.heap.size 53 (uvs s.list) ∧ Blk wr (w.heap.size + 1) 55 (uvs Ks) ∧ (∃ z, Blk wr (w.heap.size + 2) 53 z ∧ z.length = 8) ∧ Blk wr (w.heap.size + 3) 55 (uvs (sch l (m - 16) ++ List.replicate (64 - m) 0)) ∧ Kp nob w wr)
        (fun vi _ => 64 - (intOf vi).toNat)
      case atStart => exact ⟨16, by omega, by omega, rfl, H0.out, H1.out, ⟨z, H2.out, HZ.out⟩, by have := H3.out; rwa [HK.out, ← sch_zero] at this, hkp⟩
      case round =>
        clear H0 H1 H2 H3 HZ hkp hk hlt z HK
        obtain ⟨m, hm, hj, rfl, h0, h1, ⟨z, h2, hz⟩, h3, hkp⟩ := hrel
        have H0 := Lib.hid h0; have H1 := Lib.hid h1; have H2 := Lib.hid h2; have H3 := Lib.hid h3; have HZ := Lib.hid hz
        clear h0 h1 h2 h3 hz
        by_cases hlt : m < 64
        · have hs := sch_length l (m - 16)
          have hc : ∀ i, i < m → wr.cell? ⟨w.heap.size + 3, i, none⟩ = some (.int .u32 (cw ((sch l (m - 16)).getD i 0))) := fun i hi => by
            rw [H3.out.cell, uvs, List.map_append, List.getElem?_append_left (by simp; omega), List.getElem?_map, List.getElem?_eq_getElem (by omega), List.getD, List.getElem?_eq_getElem (by omega)]; rfl
          obtain ⟨m16, h16⟩ : ∃ q, q = m - 16 := ⟨_, rfl⟩
          obtain ⟨m15, h15⟩ : ∃ q, q = m - 15 := ⟨_, rfl⟩
          obtain ⟨m7, h7⟩ : ∃ q, q = m - 7 := ⟨_, rfl⟩
          obtain ⟨m2, h2⟩ : ∃ q, q = m - 2 := ⟨_, rfl⟩
          have e16 : IntKind.i64.wrap ((m : Int) - 16) = (m16 : Int) := by rw [IntWalk.i64_in _ (by omega)]; omega
          have e15 : IntKind.i64.wrap ((m : Int) - 15) = (m15 : Int) := by rw [IntWalk.i64_in _ (by omega)]; omega
          have e7 : IntKind.i64.wrap ((m : Int) - 7) = (m7 : Int) := by rw [IntWalk.i64_in _ (by omega)]; omega
          have e2 : IntKind.i64.wrap ((m : Int) - 2) = (m2 : Int) := by rw [IntWalk.i64_in _ (by omega)]; omega
          have hc16 := hc m16 (by omega)
          have hc15 := hc m15 (by omega)
          have hc7 := hc m7 (by omega)
          have hc2 := hc m2 (by omega)
          have hx := sch_ext l m m16 m15 m7 m2 hm h16 h15 h7 h2
          have hi16 : m16 < 64 := by omega
          have hi15 : m15 < 64 := by omega
          have hi7 : m7 < 64 := by omega
          have hi2 : m2 < 64 := by omega
          have hf : wr.frozen? ⟨w.heap.size + 3, m, none⟩ = false := H3.out.frozen _
          have hcm : wr.cell? ⟨w.heap.size + 3, m, none⟩ = some (.int .u32 0) := by
            rw [H3.out.cell, uvs, List.map_append, List.getElem?_append_right (by simp; omega), List.getElem?_map, List.getElem?_replicate, if_pos (by simp; omega)]; rfl
          rw [← h16] at hc16 hc15 hc7 hc2 hx
          rw [← h16] at H3
          generalize (sch l m16).getD m16 0 = X16 at hc16 hx
          generalize (sch l m16).getD m15 0 = X15 at hc15 hx
          generalize (sch l m16).getD m7 0 = X7 at hc7 hx
          generalize (sch l m16).getD m2 0 = X2 at hc2 hx
          have HX := Lib.hid hx
          have HJ : Hid (m = m16 + 16) := Lib.hid (by omega)
          clear hc hs hx h16 h15 h7 h2
          go_wp2
          go_quiet (fail)
          go_wp2_with fail
          refine (fTurn _ 7 _ (by omega) (by omega)).mono ?_
          rintro e w2 ⟨rfl, rfl⟩
          go_wp2_with fail
          refine (fTurn _ 18 _ (by omega) (by omega)).mono ?_
          rintro e w2 ⟨rfl, rfl⟩
          go_wp2_with fail
          refine (fTurn _ 17 _ (by omega) (by omega)).mono ?_
          rintro e w2 ⟨rfl, rfl⟩
          go_wp2_with fail
          refine (fTurn _ 19 _ (by omega) (by omega)).mono ?_
          rintro e w2 ⟨rfl, rfl⟩
          go_wp2
          go_region
          go_wp2
          refine ⟨?rel, by simp [intOf]; omega⟩
          case rel =>
            refine ⟨m + 1, by omega, by omega, by go_num, (H0.out.keep ((Kp.refl nob _).drewN (nq + 1)) (fun e => e)).far (by simp; omega) _, (H1.out.keep ((Kp.refl nob _).drewN (nq + 1)) (fun e => e)).far (by simp) _, ⟨z, (H2.out.keep ((Kp.refl nob _).drewN (nq + 1)) (fun e => e)).far (by simp) _, HZ.out⟩, ?_, (hkp.drewN _).setCell (.inr (by simp; omega)) _⟩
            have := (H3.out.keep ((Kp.refl nob _).drewN (nq + 1)) (fun e => e)).set_ m (uv (X16 + sml X15 7 18 3 + X7 + sml X2 17 19 10))
            rw [sch_set l m m16 _ HJ.out hlt HX.out] at this
            exact this
        · have HK : Hid (m = 64) := Lib.hid (by omega)
          have h3 : Blk wr (w.heap.size + 3) 55 (uvs (sch l 48)) := by have := H3.out; rw [HK.out] at this; simpa using this
          have hst := H0.out.range
          have c0 := hst 0 _ rfl
          have c1 := hst 1 _ rfl
          have c2 := hst 2 _ rfl
          have c3 := hst 3 _ rfl
          have c4 := hst 4 _ rfl
          have c5 := hst 5 _ rfl
          have c6 := hst 6 _ rfl
          have c7 := hst 7 _ rfl
          simp only [Nat.zero_add, uv] at c0 c1 c2 c3 c4 c5 c6 c7
          have G3 := Lib.hid h3
          clear hst h3 H3
          go_wp2
          go_quiet (fail)
          clear c0 c1 c2 c3 c4 c5 c6 c7
          go_wp2
          generalize hW : sch l 48 = W at *
          have hWl : W.length = 64 := by rw [← hW, sch_length]
          have HWl := Lib.hid hWl
          have HW := Lib.hid hW; clear hW hWl
          go_loopw [14, 15, 16, 17, 18, 19, 20, 21, 22] (fun va vb vc vd ve vf vg vh vi wr => ∃ (i : Nat) (t : St), i ≤ 64 ∧ vi = .int .i64 i ∧ t = rnds s W i ∧ va = .int .u32 (cw t.a) ∧ vb = .int .u32 (cw t.b) ∧ vc = .int .u32 (cw t.c) ∧ vd = .int .u32 (cw t.d) ∧ ve = .int .u32 (cw t.e) ∧ vf = .int .u32 (cw t.f) ∧ vg = .int .u32 (cw t.g) ∧ vh = .int .u32 (cw t.h) ∧ Blk wr w.heap.size 53 (uvs s.list) ∧ Blk wr (w.heap.size + 1) 55 (uvs Ks) ∧ (∃ z, Blk wr (w.heap.size + 2) 53 z ∧ z.length = 8) ∧ Blk wr (w.heap.size + 3) 55 (uvs W) ∧ Kp nob w wr)
            (fun _ _ _ _ _ _ _ _ vi _ => 64 - (intOf vi).toNat)
          case atStart => exact ⟨0, s, by omega, rfl, (rnds_zero _ _).symm, rfl, rfl, rfl, rfl, rfl, rfl, rfl, rfl, H0.out.keep ((Kp.refl nob _).drewN _) (fun e => e), H1.out.keep ((Kp.refl nob _).drewN _) (fun e => e), ⟨z, H2.out.keep ((Kp.refl nob _).drewN _) (fun e => e), HZ.out⟩, G3.out.keep ((Kp.refl nob _).drewN _) (fun e => e), hkp.drewN _⟩
          case round =>
            clear H0 H1 H2 G3 HZ hkp hm hj hlt z HK
            obtain ⟨i, t, hi, rfl, htt, rfl, rfl, rfl, rfl, rfl, rfl, rfl, rfl, h0, h1, ⟨z, h2, hz⟩, h3, hkp⟩ := hrel
            have H0 := Lib.hid h0; have H1 := Lib.hid h1; have H2 := Lib.hid h2; have H3 := Lib.hid h3; have HZ := Lib.hid hz
            clear h0 h1 h2 h3 hz
            by_cases hlt : i < 64
            · have cK : wr.cell? ⟨w.heap.size + 1, i, none⟩ = some (.int .u32 (cw (Ks.getD i 0))) := by
                have := H1.out.range i (uv (Ks.getD i 0)) (by simp [uvs, List.getElem?_eq_getElem (show i < Ks.length by rw [Ks_length]; omega)])
                rw [Nat.zero_add] at this; exact this
              have cW : wr.cell? ⟨w.heap.size + 3, i, none⟩ = some (.int .u32 (cw (W.getD i 0))) := by
                have := H3.out.range i (uv (W.getD i 0)) (by have := HWl.out; simp [uvs, List.getElem?_eq_getElem (show i < W.length by omega)])
                rw [Nat.zero_add] at this; exact this
              have hst : rnds s W (i + 1) = rnd t (Ks.getD i 0) (W.getD i 0) := by rw [htt, rnds_succ]
              generalize Ks.getD i 0 = K at cK hst
              generalize W.getD i 0 = X at cW hst
              have HT := Lib.hid hst; clear hst htt
              go_wp2
              go_quiet ((go_at_call 31; exact quiet_left (fThree _ _ _ _ _ (by omega) (by omega) (by omega))))
              go_wp2_with fail
              refine (fThree _ 2 13 22 _ (by omega) (by omega) (by omega)).mono ?_
              rintro e w4 ⟨rfl, rfl⟩
              go_wp2
              refine ⟨?rel, by simp [intOf]; omega⟩
              case rel =>
                exact ⟨i + 1, rnd t K X, by omega, by go_num, HT.out.symm, rfl, rfl, rfl, rfl, rfl, rfl, rfl, rfl, H0.out.keep ((Kp.refl nob _).drewN _) (fun e => e), H1.out.keep ((Kp.refl nob _).drewN _) (fun e => e), ⟨z, H2.out.keep ((Kp.refl nob _).drewN _) (fun e => e), HZ.out⟩, H3.out.keep ((Kp.refl nob _).drewN _) (fun e => e), hkp.drewN _⟩
            · have HT : Hid (t = rnds s W 64) := Lib.hid (by rw [htt, show i = 64 by omega])
              have hst := H0.out.range
              have c0 := hst 0 _ rfl
              have c1 := hst 1 _ rfl
              have c2 := hst 2 _ rfl
              have c3 := hst 3 _ rfl
              have c4 := hst 4 _ rfl
              have c5 := hst 5 _ rfl
              have c6 := hst 6 _ rfl
              have c7 := hst 7 _ rfl
              simp only [Nat.zero_add, uv] at c0 c1 c2 c3 c4 c5 c6 c7
              clear hst htt
              go_wp2_with (first
                | (refine wpList_built rfl 53 _ rfl (.agg (uvs (s.add t).list).toArray) (by kernel_rfl) ?_)
                | (refine wpList_store_blk rfl 53 (.tmp 6) (.tmp 206) rfl (w.heap.size + 2) _ z (uvs (s.add t).list) H2.out rfl rfl (by rw [HZ.out]; rfl) (by kernel_rfl) (uvs_one _) ?_; intro w5 hB5 k5 z5))
              refine bodyPost_ret (results_cell_row rfl _ _ (w.heap.size + 2) _ _ _ _ rfl hB5 arr8u rfl (by kernel_rfl)) rfl ⟨by rw [next_eq, HW.out, ← HT.out], hkp.since k5 (fun i e => by unfold oneB at e; omega)⟩
end Go.Proofs.YtnpidcehioljaaaDoor.Sha
