/- Contracts of package sha: the state of a block. -/
import Derived.Test.YtnpidcehioljaaaDoorShaA
import Derived.BigRegion
namespace Go.Proofs.YtnpidcehioljaaaDoor.Sha
open Go Go.RowKit Kit

theorem quiet_add_left {P : Program} {f : FuncId} {args : Array Value} {w : World} {a n : Nat} {v : Value}
    (h : Calls P f args (w.drewN (a + n)) fun e w' => e = .returned v ∧ w.drewN (a + n) = w') :
    Calls P f args (w.drewN (a + n)) fun e w'' => e = .returned v ∧ ∃ m, w'' = w.drewN (a + m) :=
  h.mono fun _ _ ⟨he, hm⟩ => ⟨he, n, hm.symm⟩
theorem quiet_left {P : Program} {f : FuncId} {args : Array Value} {w : World} {n : Nat} {v : Value}
    (h : Calls P f args (w.drewN n) fun e w' => e = .returned v ∧ w.drewN n = w') : Calls P f args (w.drewN n) fun e w'' => e = .returned v ∧ ∃ m, w'' = w.drewN m :=
  h.mono fun _ _ ⟨he, hm⟩ => ⟨he, n, hm.symm⟩

/-- The package's two tables are laid. -/
structure Tabs (w : World) : Prop where
  start : w.rangeAt 0 0 (uvs H0.list)
  rounds : w.rangeAt 1 0 (uvs Ks)
/-- A block that is none of theirs. -/
def Far (b : Nat) : Prop := b ≠ 0 ∧ b ≠ 1
theorem Tabs.keep {F : Nat → Prop} {w w' : World} (h : Tabs w) (hk : Kp F w w') (hf : ∀ k, F k → Far k) : Tabs w' :=
  ⟨range_keep h.start hk (fun e => (hf _ e).1 rfl), range_keep h.rounds hk (fun e => (hf _ e).2 rfl)⟩
theorem Tabs.keep0 {w w' : World} (h : Tabs w) (hk : Kp nob w w') : Tabs w' := h.keep hk (fun _ e => e.elim)
theorem Tabs.far {w : World} (h : Tabs w) {k : Nat} (hk : w.heap.size ≤ k) : Far k := by
  have h1 := World.block_lt_of_cell? w _ (h.start 0 _ rfl)
  have h2 := World.block_lt_of_cell? w _ (h.rounds 0 _ rfl)
  constructor <;> (intro e; subst e; simp at h1 h2; omega)

/-- A Hash at block b: its state, its block's bytes, its size. -/
def IsH (w : World) (b : Nat) (s : St) (l : List UInt8) (n : Nat) : Prop := l.length = 64 ∧ Blk w b 67 (uvs s.list ++ bvs l ++ [.int .i64 n])
theorem IsH.lt {w : World} {b : Nat} {s : St} {l : List UInt8} {n : Nat} (h : IsH w b s l n) : b < w.heap.size := h.2.lt
theorem IsH.keep {F : Nat → Prop} {w w' : World} {b : Nat} {s : St} {l : List UInt8} {n : Nat} (h : IsH w b s l n) (hk : Kp F w w') (hf : ¬ F b) : IsH w' b s l n := ⟨h.1, h.2.keep hk hf⟩
theorem IsH.size {w : World} {b : Nat} {s : St} {l : List UInt8} {n : Nat} (h : IsH w b s l n) : w.cell? ⟨b, 72, none⟩ = some (.int .i64 n) := by
  rw [h.2.cell, List.getElem?_append_right (by simp [St.list, h.1])]; simp [St.list, h.1]
theorem IsH.block {w : World} {b : Nat} {s : St} {l : List UInt8} {n : Nat} (h : IsH w b s l n) : w.rangeAt b 8 (bvs l) := fun j v hv => by
  have hj : j < (bvs l).length := (List.getElem?_eq_some_iff.1 hv).1
  rw [h.2.cell, List.getElem?_append_left (by simp [St.list] at hj ⊢; omega), List.getElem?_append_right (by simp [St.list])]
  simpa [St.list] using hv
theorem IsH.state {w : World} {b : Nat} {s : St} {l : List UInt8} {n : Nat} (h : IsH w b s l n) : w.rangeAt b 0 (uvs s.list) := fun j v hv => by
  have hj : j < (uvs s.list).length := (List.getElem?_eq_some_iff.1 hv).1
  rw [h.2.cell, Nat.zero_add, List.append_assoc, List.getElem?_append_left hj]; exact hv

theorem uvs_set (l : List UInt32) (i : Nat) (x : UInt32) : (uvs l).set i (uv x) = uvs (l.set i x) := by rw [uvs, uvs, List.map_set]
set_option maxHeartbeats 4000000 in
set_option maxRecDepth 100000 in
theorem mix_any (b : Nat) (s : St) (l : List UInt8) (n : Nat) (w : World) (h : IsH w b s l n) (ht : Tabs w) :
    Calls Tryd.prog 32 #[.pointer (some ⟨b, 0, none⟩)] w fun e w' => e = .returned (.tuple #[]) ∧ IsH w' b (next s l) l n ∧ Kp (oneB b) w w' := by
  have H := Lib.hid h
  have hb := h.lt
  have hblk := h.block
  have hl := h.1
  clear h
  go_enter Tryd.func32, Tryd.ntmps32
  go_wp2_with fail
  refine (spread_any b 8 l _ hl hb hblk).mono ?_
  rintro e w1 ⟨rfl, k1⟩
  have H1 := Lib.hid (H.out.keep k1 (fun e => e))
  have T1 := ht.keep0 k1
  have HL := Lib.hid hl; have HB := Lib.hid hblk; clear hl hblk
  go_wp2_with (refine wpList_store_new rfl 55 (.tmp 2) (.tmp 19) rfl _ (uvs (sch l 48)) rfl rfl (by simp [sch_length]) (by kernel_rfl) (uvs_one _) ?_)
  intro w2 hW k2 z2
  have H2 := H1.out.keep k2 (fun e => e)
  have T2 := T1.keep0 k2
  have hst := H2.state
  have c0 := hst 0 _ rfl
  have c1 := hst 1 _ rfl
  have c2 := hst 2 _ rfl
  have c3 := hst 3 _ rfl
  have c4 := hst 4 _ rfl
  have c5 := hst 5 _ rfl
  have c6 := hst 6 _ rfl
  have c7 := hst 7 _ rfl
  simp only [Nat.zero_add, uv] at c0 c1 c2 c3 c4 c5 c6 c7
  have kw := k1.trans k2 (fun _ e => e.elim)
  have G2 := Lib.hid H2; have GT := Lib.hid T2; have GW := Lib.hid hW; have GZ := Lib.hid z2
  clear H2 T2 hW z2 hst k2 T1 ht
  go_wp2
  go_quiet (fail)
  clear c0 c1 c2 c3 c4 c5 c6 c7
  go_wp2
  generalize hW : sch l 48 = W at *
  have hWl : W.length = 64 := by rw [← hW, sch_length]
  have HWl := Lib.hid hWl
  have HW := Lib.hid hW; clear hW hWl
  go_loopw [3, 4, 5, 6, 7, 8, 9, 10, 60] (fun va vb vc vd ve vf vg vh vi wr => ∃ (i : Nat) (t : St), i ≤ 64 ∧ vi = .int .i64 i ∧ t = rnds s W i ∧ va = .int .u32 (cw t.a) ∧ vb = .int .u32 (cw t.b) ∧ vc = .int .u32 (cw t.c) ∧ vd = .int .u32 (cw t.d) ∧ ve = .int .u32 (cw t.e) ∧ vf = .int .u32 (cw t.f) ∧ vg = .int .u32 (cw t.g) ∧ vh = .int .u32 (cw t.h) ∧ Kp nob w2 wr)
    (fun _ _ _ _ _ _ _ _ vi _ => 64 - (intOf vi).toNat)
  case atStart => exact ⟨0, s, by omega, rfl, (rnds_zero _ _).symm, rfl, rfl, rfl, rfl, rfl, rfl, rfl, rfl, (Kp.refl _ _).drewN _⟩
  case round =>
    obtain ⟨i, t, hi, rfl, htt, rfl, rfl, rfl, rfl, rfl, rfl, rfl, rfl, hkp⟩ := hrel
    by_cases hlt : i < 64
    · have cK : wr.cell? ⟨1, i, none⟩ = some (.int .u32 (cw (Ks.getD i 0))) := by
        have := (GT.out.keep0 hkp).rounds i (uv (Ks.getD i 0)) (by simp [uvs, List.getElem?_eq_getElem (show i < Ks.length by rw [Ks_length]; omega)])
        rw [Nat.zero_add] at this; exact this
      have cW : wr.cell? ⟨w1.heap.size, i, none⟩ = some (.int .u32 (cw (W.getD i 0))) := by
        have := (GW.out.keep hkp (fun e => e)).range i (uv (W.getD i 0)) (by have := HWl.out; simp [uvs, List.getElem?_eq_getElem (show i < W.length by omega)])
        rw [Nat.zero_add] at this; exact this
      have hst : rnds s W (i + 1) = rnd t (Ks.getD i 0) (W.getD i 0) := by rw [htt, rnds_succ]
      generalize Ks.getD i 0 = K at cK hst
      generalize W.getD i 0 = X at cW hst
      have HT := Lib.hid hst; clear hst htt
      go_wp2
      go_quiet ((go_at_call 36; exact quiet_left (turned_any _ _ _ (by omega) (by omega))))
      go_wp2_with fail
      refine (turned_any _ 2 _ (by omega) (by omega)).mono ?_
      rintro e w4 ⟨rfl, rfl⟩
      go_wp2_with fail
      refine (turned_any _ 13 _ (by omega) (by omega)).mono ?_
      rintro e w4 ⟨rfl, rfl⟩
      go_wp2_with fail
      refine (turned_any _ 22 _ (by omega) (by omega)).mono ?_
      rintro e w4 ⟨rfl, rfl⟩
      go_wp2
      go_roundw
      case rel =>
        refine ⟨i + 1, rnd t K X, by omega, by go_num, HT.out.symm, rfl, rfl, rfl, rfl, rfl, rfl, rfl, rfl, hkp.drewN _⟩
      case measure => simp [intOf]; omega
    · obtain rfl : i = 64 := by omega
      have H3 := Lib.hid (G2.out.keep hkp (fun e => e)).2
      have HT := Lib.hid htt; clear htt
      have kw3 := kw.trans hkp (fun _ e => e.elim)
      go_wp2
      go_loopw [132] (fun vi wq => ∃ i : Nat, i ≤ 8 ∧ vi = .int .i64 i ∧ Blk wq b 67 (uvs ((List.zipWith (· + ·) s.list t.list).take i ++ s.list.drop i) ++ bvs l ++ [.int .i64 n]) ∧ Kp (oneB b) w wq)
        (fun vi _ => 8 - (intOf vi).toNat)
      case atStart => exact ⟨0, by omega, rfl, H3.out, kw3.nob _⟩
      case round =>
        obtain ⟨j, hj, rfl, hB, hkq⟩ := hrel
        have HBB := Lib.hid hB; clear hB H3 kw3
        by_cases hlt : j < 8
        · obtain ⟨x, hx⟩ : ∃ x, x = s.list[j]'(hlt) := ⟨_, rfl⟩
          obtain ⟨y, hy⟩ : ∃ y, y = t.list[j]'(hlt) := ⟨_, rfl⟩
          have hcx : wr.cell? ⟨b, j, none⟩ = some (.int .u32 (cw x)) := by
            have h8 : s.list.length = 8 := rfl
            have h8t : t.list.length = 8 := rfl
            rw [HBB.out.cell, List.append_assoc, List.getElem?_append_left (by simp; omega), uvs, List.map_append, List.getElem?_append_right (by simp; omega)]
            simp only [List.length_map, List.length_take, List.length_zipWith, h8, h8t]
            rw [show j - min j (min 8 8) = 0 by omega, List.drop_eq_getElem_cons (by omega), hx]
            rfl
          have hf : wr.frozen? ⟨b, j, none⟩ = false := HBB.out.frozen _
          have hst := zip_step s.list t.list j hlt hlt
          rw [← hx, ← hy] at hst
          have hix := fun wx => run_index_agg (P := Tryd.prog) wx 53 52 8 #[.int .u32 (cw t.a), .int .u32 (cw t.b), .int .u32 (cw t.c), .int .u32 (cw t.d), .int .u32 (cw t.e), .int .u32 (cw t.f), .int .u32 (cw t.g), .int .u32 (cw t.h)] .i64 j (uv y) .u32 (by kernel_rfl) (by kernel_rfl) (by kernel_rfl) hlt (by
            have : (uvs t.list)[j]? = some (uv y) := by rw [uvs, List.getElem?_map, List.getElem?_eq_getElem hlt, hy]; rfl
            rw [← this]; simp [uvs, uv, St.list])
          have HST := Lib.hid hst
          clear hst hx hy
          unfold uv at hix
          go_wp2
          go_region
          go_wp2
          refine ⟨?rel, by simp [intOf]; omega⟩
          case rel =>
            (repeat apply Exists.intro)
            refine ⟨?_, rfl⟩
            refine ⟨j + 1, by omega, by go_num, ?_, (hkq.setCell (p := ⟨b, j, none⟩) (.inl rfl) _).drew⟩
            have := (HBB.out.set_ j (uv (x + y))).keep (Kp.refl nob _).drew (fun e => e)
            rw [List.append_assoc, List.set_append_left _ _ (by simp [St.list]; omega), ← List.append_assoc, uvs_set, HST.out] at this
            exact this
        · obtain rfl : j = 8 := by omega
          have hfin : IsH wr b (next s l) l n := ⟨HL.out, by
            have := HBB.out
            rwa [List.take_of_length_le (by simp [St.list]), List.drop_eq_nil_of_le (by simp [St.list]), List.append_nil, ← St.add_list, HT.out, ← HW.out, ← next_eq] at this⟩
          go_wp2
          go_end0
          exact ⟨rfl, hfin, hkq⟩
end Go.Proofs.YtnpidcehioljaaaDoor.Sha
