/- Lemmas: ShaBg ShaCg ShaDg ShaEg PcsOf ShaMg. -/
import Derived.Test.YtiimfhacnfdmhaaGreatZG21
import Derived.BigRegion
import Derived.Lib.SlBytesConst
set_option linter.unusedVariables false
set_option linter.unusedSimpArgs false
namespace Go.Proofs.YtiimfhacnfdmhaaGreat.Sha
open Go Go.RowKit Kit
theorem quiet_left {P : Program} {f : FuncId} {args : Array Value} {w : World} {n : Nat} {v : Value}
    (h : Calls P f args (w.drewN n) fun e w' => e = .returned v ∧ w.drewN n = w') : Calls P f args (w.drewN n) fun e w'' => e = .returned v ∧ ∃ m, w'' = w.drewN m :=
  h.mono fun _ _ ⟨he, hm⟩ => ⟨he, n, hm.symm⟩
structure Tabs [Inhabited Sha.ShaTab] (w : World) : Prop where
  start : w.rangeAt 0 0 (uvs H0.list)
  rounds : w.rangeAt 1 0 (uvs Ks)
def Far (b : Nat) : Prop := b ≠ 0 ∧ b ≠ 1
theorem Tabs.keep [Inhabited Sha.ShaTab] {F : Nat → Prop} {w w' : World} (h : Tabs w) (hk : Kp F w w') (hf : ∀ k, F k → Far k) : Tabs w' :=
  ⟨range_keep h.start hk (fun e => (hf _ e).1 rfl), range_keep h.rounds hk (fun e => (hf _ e).2 rfl)⟩
theorem Tabs.keep0 [Inhabited Sha.ShaTab] {w w' : World} (h : Tabs w) (hk : Kp nob w w') : Tabs w' := h.keep hk (fun _ e => e.elim)
theorem Tabs.far [Inhabited Sha.ShaTab] {w : World} (h : Tabs w) {k : Nat} (hk : w.heap.size ≤ k) : Far k := by
  have h1 := World.block_lt_of_cell? w _ (h.start 0 _ rfl)
  have h2 := World.block_lt_of_cell? w _ (h.rounds 0 (uv (Ks.getD 0 0)) (by simp [uvs, List.getElem?_eq_getElem (show 0 < Ks.length by rw [Ks_length]; omega)]))
  constructor <;> (intro e; subst e; simp at h1 h2; omega)
def IsH (w : World) (b : Nat) (s : St) (l : List UInt8) (n : Nat) : Prop := l.length = 64 ∧ Blk w b 219 (uvs s.list ++ bvs l ++ [.int .i64 n])
theorem IsH.lt {w : World} {b : Nat} {s : St} {l : List UInt8} {n : Nat} (h : IsH w b s l n) : b < w.heap.size := h.2.lt
theorem IsH.keep {F : Nat → Prop} {w w' : World} {b : Nat} {s : St} {l : List UInt8} {n : Nat} (h : IsH w b s l n) (hk : Kp F w w') (hf : ¬ F b) : IsH w' b s l n := ⟨h.1, h.2.keep hk hf⟩
theorem IsH.size {w : World} {b : Nat} {s : St} {l : List UInt8} {n : Nat} (h : IsH w b s l n) : w.cell? ⟨b, 72, none⟩ = some (.int .i64 n) := by
  rw [h.2.cell, List.getElem?_append_right (by simp [St.list, h.1])]; simp [St.list, h.1]
theorem IsH.block {w : World} {b : Nat} {s : St} {l : List UInt8} {n : Nat} (h : IsH w b s l n) : w.rangeAt b 8 (bvs l) := fun j v hv => by
  have hj : j < (bvs l).length := (List.getElem?_eq_some_iff.1 hv).1
  rw [h.2.cell, List.getElem?_append_left (by simp [St.list] at hj ⊢; omega), List.getElem?_append_right (by simp [St.list])]
  simpa [St.list] using hv
theorem IsH.state {w : World} {b : Nat} {s : St} {l : List UInt8} {n : Nat} (h : IsH w b s l n) : w.rangeAt b 0 (uvs s.list) := fun j v hv => by
  have hj : j < (uvs s.list).length := (List.getElem?_eq_some_iff.1 hv).1
  rw [h.2.cell, Nat.zero_add, List.append_assoc, List.getElem?_append_left hj]; exact hv
theorem uvs_set (l : List UInt32) (i : Nat) (x : UInt32) : (uvs l).set i (uv x) = uvs (l.set i x) := by rw [uvs, uvs, List.map_set]
set_option maxHeartbeats 4000000 in
set_option maxRecDepth 100000 in
theorem mix_any [Inhabited Sha.ShaTab] (b : Nat) (s : St) (l : List UInt8) (n : Nat) (w : World) (h : IsH w b s l n) (ht : Tabs w) :
    Calls Tryz.prog 164 #[.pointer (some ⟨b, 0, none⟩)] w fun e w' => e = .returned (.tuple #[]) ∧ IsH w' b (next s l) l n ∧ Kp (oneB b) w w' := by
  have H := Lib.hid h
  have hb := h.lt
  have hblk := h.block
  have hl := h.1
  clear h
  go_enter Tryz.func164, Tryz.ntmps164
  go_wp2_with fail
  refine (spread_any b 8 l _ hl hb hblk).mono ?_
  rintro e w1 ⟨rfl, k1⟩
  have H1 := Lib.hid (H.out.keep k1 (fun e => e))
  have T1 := ht.keep0 k1
  have HL := Lib.hid hl; have HB := Lib.hid hblk; clear hl hblk
  go_wp2_with (refine wpList_store_new rfl 114 (.tmp 2) (.tmp 19) rfl _ (uvs (sch l 48)) rfl rfl (by simp [sch_length]) (by kernel_rfl) (uvs_one _) ?_)
  intro w2 hW k2 z2
  have H2 := H1.out.keep k2 (fun e => e)
  have T2 := T1.keep0 k2
  have hst := H2.state
  have c0 := hst 0 _ rfl
  have c1 := hst 1 _ rfl
  have c2 := hst 2 _ rfl
  have c3 := hst 3 _ rfl
  have c4 := hst 4 _ rfl
  have c5 := hst 5 _ rfl
  have c6 := hst 6 _ rfl
  have c7 := hst 7 _ rfl
  simp only [Nat.zero_add, uv] at c0 c1 c2 c3 c4 c5 c6 c7
  have kw := k1.trans k2 (fun _ e => e.elim)
  have G2 := Lib.hid H2; have GT := Lib.hid T2; have GW := Lib.hid hW; have GZ := Lib.hid z2
  clear H2 T2 hW z2 hst k2 T1 ht
  go_wp2
  go_quiet (fail)
  clear c0 c1 c2 c3 c4 c5 c6 c7
  go_wp2
  generalize hW : sch l 48 = W at *
  have hWl : W.length = 64 := by rw [← hW, sch_length]
  have HWl := Lib.hid hWl
  have HW := Lib.hid hW; clear hW hWl
  go_loopw [3, 4, 5, 6, 7, 8, 9, 10, 60] (fun va vb vc vd ve vf vg vh vi wr => ∃ (i : Nat) (t : St), i ≤ 64 ∧ vi = .int .i64 i ∧ t = rnds s W i ∧ va = .int .u32 (cw t.a) ∧ vb = .int .u32 (cw t.b) ∧ vc = .int .u32 (cw t.c) ∧ vd = .int .u32 (cw t.d) ∧ ve = .int .u32 (cw t.e) ∧ vf = .int .u32 (cw t.f) ∧ vg = .int .u32 (cw t.g) ∧ vh = .int .u32 (cw t.h) ∧ Kp nob w2 wr)
    (fun _ _ _ _ _ _ _ _ vi _ => 64 - (intOf vi).toNat)
  case atStart => exact ⟨0, s, by omega, rfl, (rnds_zero _ _).symm, rfl, rfl, rfl, rfl, rfl, rfl, rfl, rfl, (Kp.refl _ _).drewN _⟩
  case round =>
    obtain ⟨i, t, hi, rfl, htt, rfl, rfl, rfl, rfl, rfl, rfl, rfl, rfl, hkp⟩ := hrel
    by_cases hlt : i < 64
    · have cK : wr.cell? ⟨1, i, none⟩ = some (.int .u32 (cw (Ks.getD i 0))) := by
        have := (GT.out.keep0 hkp).rounds i (uv (Ks.getD i 0)) (by simp [uvs, List.getElem?_eq_getElem (show i < Ks.length by rw [Ks_length]; omega)])
        rw [Nat.zero_add] at this; exact this
      have cW : wr.cell? ⟨w1.heap.size, i, none⟩ = some (.int .u32 (cw (W.getD i 0))) := by
        have := (GW.out.keep hkp (fun e => e)).range i (uv (W.getD i 0)) (by have := HWl.out; simp [uvs, List.getElem?_eq_getElem (show i < W.length by omega)])
        rw [Nat.zero_add] at this; exact this
      have hst : rnds s W (i + 1) = rnd t (Ks.getD i 0) (W.getD i 0) := by rw [htt, rnds_succ]
      generalize Ks.getD i 0 = K at cK hst
      generalize W.getD i 0 = X at cW hst
      have HT := Lib.hid hst; clear hst htt
      go_wp2
      go_quiet ((go_at_call 179; exact quiet_left (turned_any _ _ _ (by omega) (by omega))))
      go_wp2_with fail
      refine (turned_any _ 2 _ (by omega) (by omega)).mono ?_
      rintro e w4 ⟨rfl, rfl⟩
      go_wp2_with fail
      refine (turned_any _ 13 _ (by omega) (by omega)).mono ?_
      rintro e w4 ⟨rfl, rfl⟩
      go_wp2_with fail
      refine (turned_any _ 22 _ (by omega) (by omega)).mono ?_
      rintro e w4 ⟨rfl, rfl⟩
      go_wp2
      go_roundw
      case rel =>
        refine ⟨i + 1, rnd t K X, by omega, by go_num, HT.out.symm, rfl, rfl, rfl, rfl, rfl, rfl, rfl, rfl, hkp.drewN _⟩
      case measure => simp [intOf]; omega
    · obtain rfl : i = 64 := by omega
      have H3 := Lib.hid (G2.out.keep hkp (fun e => e)).2
      have HT := Lib.hid htt; clear htt
      have kw3 := kw.trans hkp (fun _ e => e.elim)
      go_wp2
      go_loopw [132] (fun vi wq => ∃ i : Nat, i ≤ 8 ∧ vi = .int .i64 i ∧ Blk wq b 219 (uvs ((List.zipWith (· + ·) s.list t.list).take i ++ s.list.drop i) ++ bvs l ++ [.int .i64 n]) ∧ Kp (oneB b) w wq)
        (fun vi _ => 8 - (intOf vi).toNat)
      case atStart => exact ⟨0, by omega, rfl, H3.out, kw3.nob _⟩
      case round =>
        obtain ⟨j, hj, rfl, hB, hkq⟩ := hrel
        have HBB := Lib.hid hB; clear hB H3 kw3
        by_cases hlt : j < 8
        · obtain ⟨x, hx⟩ : ∃ x, x = s.list[j]'(hlt) := ⟨_, rfl⟩
          obtain ⟨y, hy⟩ : ∃ y, y = t.list[j]'(hlt) := ⟨_, rfl⟩
          have hcx : wr.cell? ⟨b, j, none⟩ = some (.int .u32 (cw x)) := by
            have h8 : s.list.length = 8 := rfl
            have h8t : t.list.length = 8 := rfl
            rw [HBB.out.cell, List.append_assoc, List.getElem?_append_left (by simp; omega), uvs, List.map_append, List.getElem?_append_right (by simp; omega)]
            simp only [List.length_map, List.length_take, List.length_zipWith, h8, h8t]
            rw [show j - min j (min 8 8) = 0 by omega, List.drop_eq_getElem_cons (by omega), hx]
            rfl
          have hf : wr.frozen? ⟨b, j, none⟩ = false := HBB.out.frozen _
          have hst := zip_step s.list t.list j hlt hlt
          rw [← hx, ← hy] at hst
          have hix := fun wx => run_index_agg (P := Tryz.prog) wx 112 111 8 #[.int .u32 (cw t.a), .int .u32 (cw t.b), .int .u32 (cw t.c), .int .u32 (cw t.d), .int .u32 (cw t.e), .int .u32 (cw t.f), .int .u32 (cw t.g), .int .u32 (cw t.h)] .i64 j (uv y) .u32 (by kernel_rfl) (by kernel_rfl) (by kernel_rfl) hlt (by
            have : (uvs t.list)[j]? = some (uv y) := by rw [uvs, List.getElem?_map, List.getElem?_eq_getElem hlt, hy]; rfl
            rw [← this]; simp [uvs, uv, St.list])
          have HST := Lib.hid hst
          clear hst hx hy
          unfold uv at hix
          go_wp2
          go_region
          go_wp2
          refine ⟨?rel, by simp [intOf]; omega⟩
          case rel =>
            (repeat apply Exists.intro)
            refine ⟨?_, rfl⟩
            refine ⟨j + 1, by omega, by go_num, ?_, (hkq.setCell (p := ⟨b, j, none⟩) (.inl rfl) _).drew⟩
            have := (HBB.out.set_ j (uv (x + y))).keep (Kp.refl nob _).drew (fun e => e)
            rw [List.append_assoc, List.set_append_left _ _ (by simp [St.list]; omega), ← List.append_assoc, uvs_set, HST.out] at this
            exact this
        · obtain rfl : j = 8 := by omega
          have hfin : IsH wr b (next s l) l n := ⟨HL.out, by
            have := HBB.out
            rwa [List.take_of_length_le (by simp [St.list]), List.drop_eq_nil_of_le (by simp [St.list]), List.append_nil, ← St.add_list, HT.out, ← HW.out, ← next_eq] at this⟩
          go_wp2
          go_end0
          exact ⟨rfl, hfin, hkq⟩
theorem u8s_under : Tryz.prog.underlying 42 = some (.slice 5) := by kernel_rfl
theorem cells_splice (s : St) (blk cs : List UInt8) (u : Nat) (v : Value) (h : u + cs.length ≤ blk.length) :
    splice (uvs s.list ++ bvs blk ++ [v]) (8 + u) (bvs cs) = uvs s.list ++ bvs (splice blk u cs) ++ [v] := by
  have h8 : (uvs s.list).length = 8 := rfl
  unfold splice
  simp only [bvs_append, List.append_assoc]
  rw [List.take_append, List.take_of_length_le (by omega), h8, Nat.add_sub_cancel_left, List.take_append_of_le_length (by simp; omega), List.append_assoc]
  congr 2
  · simp [bvs]
  · congr 1
    rw [List.drop_append, List.drop_eq_nil_of_le (by rw [h8]; omega), h8, show 8 + u + (bvs cs).length - 8 = u + cs.length by simp; omega, List.nil_append, List.drop_append_of_le_length (by simp; omega)]
    simp [bvs]
theorem cells_size (s : St) (blk : List UInt8) (v v' : Value) (h : blk.length = 64) : (uvs s.list ++ bvs blk ++ [v]).set 72 v' = uvs s.list ++ bvs blk ++ [v'] := by
  rw [List.set_append_right _ _ (by simp [St.list, h])]; simp [St.list, h]
def Has [Inhabited Sha.ShaTab] (w : World) (b : Nat) (l : List UInt8) : Prop := ∃ s blk, Taken l s blk ∧ IsH w b s blk l.length
theorem Has.lt [Inhabited Sha.ShaTab] {w : World} {b : Nat} {l : List UInt8} (h : Has w b l) : b < w.heap.size := by obtain ⟨s, blk, _, h⟩ := h; exact h.lt
theorem Has.keep [Inhabited Sha.ShaTab] {F : Nat → Prop} {w w' : World} {b : Nat} {l : List UInt8} (h : Has w b l) (hk : Kp F w w') (hf : ¬ F b) : Has w' b l := by
  obtain ⟨s, blk, h1, h2⟩ := h; exact ⟨s, blk, h1, h2.keep hk hf⟩
theorem slice_block [Inhabited Sha.ShaTab] (b u : Nat) (hu : u < 64) (w : World) : (Instr.sliceAt 215 (.pointer (some ⟨b, 8, none⟩)) (some (.int .i64 u)) none none).run Tryz.prog w = .ok (.slice (some ⟨b, 8 + u, none⟩) (64 - u) (64 - u)) w := by
  have ha : Tryz.prog.underlying 215 = some (.array (Tryz.prog.arrayLen 215) (Tryz.prog.elem 215)) := by kernel_rfl
  have hl : Tryz.prog.arrayLen 215 = 64 := by kernel_rfl
  have he : Tryz.prog.elem 215 = 5 := by kernel_rfl
  have hz : ∀ w, (sizeOf 5).run Tryz.prog w = .ok 1 w := fun _ => by kernel_rfl
  rw [run_sliceAt_array_l w _ _ ha _ _ (by omega) (by rw [hl]; omega), hl, he, hz]
  simp [Result.andThen, slicedAt, show ¬ 64 = u by omega, Addr.add]
set_option maxHeartbeats 1000000 in
theorem take_any [Inhabited Sha.ShaTab] (b : Nat) (l : List UInt8) (A : Option Addr) (m c : Nat) (ml : List UInt8) (w : World) (h : Has w b l) (ht : Tabs w) (hb : Far b) (hm : ml.length = m) (hr : Row w A (bvs ml)) (hA : ml = [] ∨ ∀ k, ab A = some k → k ≠ b) (hc : m ≤ c) (hc2 : c ≤ maxLen) (hl : l.length + m ≤ 1099511627776) :
    Calls Tryz.prog 152 #[.pointer (some ⟨b, 0, none⟩), .slice A m c] w fun e w' => e = .returned (.tuple #[]) ∧ Has w' b (l ++ ml) ∧ Kp (oneB b) w w' := by
  unfold maxLen at hc2
  go_enter Tryz.func152, Tryz.ntmps152
  go_wp2
  go_loopw [1] (fun p wr => ∃ (k : Nat) (A' : Option Addr) (c' : Nat), k ≤ m ∧ p = .slice A' (m - k : Nat) c' ∧ m - k ≤ c' ∧ c' ≤ 9223372036854775807 ∧ Has wr b (l ++ ml.take k) ∧ Kp (oneB b) w wr ∧ Row wr A' (bvs (ml.drop k)) ∧ (ml = [] ∨ ∀ j, ab A' = some j → j ≠ b))
    (fun p _ => match p with | .slice _ n _ => n | _ => 0)
  case atStart => exact ⟨0, A, c, by omega, by simp, by omega, hc2, by simpa using h, Kp.refl _ _, by simpa using hr, hA⟩
  case round =>
    obtain ⟨k, A', c', hk, rfl, hcc, hcc2, hh, hkp, hrow, hA'⟩ := hrel
    obtain ⟨N, hN⟩ : ∃ N, N = (l ++ ml.take k).length := ⟨_, rfl⟩
    have hN2 : N = l.length + k := by rw [hN, List.length_append, List.length_take, hm, Nat.min_eq_left hk]
    by_cases hlt : k < m
    · replace hA' := hA'.resolve_left (fun e => by rw [e] at hm; simp at hm; omega)
      obtain ⟨s, blk, htk, hish⟩ := hh
      rw [← hN] at hish
      have hsz := hish.size
      have hfz : wr.frozen? ⟨b, 72, none⟩ = false := hish.2.frozen _
      have hbl := hish.1
      obtain ⟨R, hR⟩ : ∃ R, R = m - k := ⟨_, rfl⟩
      rw [← hR] at hcc ⊢
      obtain ⟨u, hu⟩ : ∃ u, u = N % 64 := ⟨_, rfl⟩
      have hu1 : u < 64 := by omega
      have hu2 : u ≤ 64 := by omega
      have hu3 : ¬ (64 = u) := by omega
      have hum : ((N : Int).tmod 64) = (u : Int) := by rw [Int.tmod_eq_emod_of_nonneg (by omega)]; omega
      have hsl := slice_block b u hu1
      have hB := Lib.hid hish.2
      have HN := Lib.hid hN
      have HU := Lib.hid hu
      have HR := Lib.hid hR
      have HH := Lib.hid htk
      have HI := Lib.hid hish
      have hR1 : 0 < R := by omega
      obtain ⟨cs, hcs⟩ : ∃ cs, cs = (ml.drop k).take (64 - u) := ⟨_, rfl⟩
      have hcl : (bvs cs).length = Nat.min R (64 - u) := by rw [bvs_length, hcs, List.length_take, List.length_drop, hm, hR, Nat.min_comm]
      have hfit : 8 + u + (bvs cs).length ≤ (uvs s.list ++ bvs blk ++ [Value.int .i64 N]).length := by
        rw [hcl]; have : Nat.min R (64 - u) ≤ 64 - u := Nat.min_le_right R (64 - u); simp [St.list, hbl]; omega
      have hrc : Row wr A' (bvs cs) := by
        have := hrow.take (64 - u)
        rwa [bvs, ← List.map_take, ← hcs] at this
      have hcl2 : cs.length = min R (64 - u) := by rw [← bvs_length, hcl]
      obtain ⟨r, hr2⟩ : ∃ r, r = cs.length := ⟨_, rfl⟩
      have hr0 : 0 < r := by omega
      have hr1 : r ≤ R := by omega
      have hr3 : u + r ≤ 64 := by omega
      have HCL := Lib.hid hcl; have HF := Lib.hid hfit; have HRC := Lib.hid (hrc.keep0 (Kp.refl nob _).drew)
      have HCS := Lib.hid hcs; have HR2 := Lib.hid hr2; have HM := Lib.hid hm
      clear hN hN2 hu hR htk hish hm hk hcs hcl hfit hrc hcl2 hr2
      go_wp2
      go_region_law (first | (refine step_copy_blk rfl (.tmp 16) (.tmp 17) 42 42 rfl 5 u8s_under (by kernel_rfl) b (8 + u) _ _ _ _ _ _ rfl rfl _ _ hB.out (bvs cs) HCL.out (fun _ => rfl) HRC.out HF.out (bvs_one _) ?_; rw [bvs_length, ← HR2.out]; intro w2 hB2 k2 z2))
      rw [cells_splice s blk cs u _ (by rw [← HR2.out]; omega)] at hB2
      have hbl2 : (splice blk u cs).length = 64 := by rw [length_splice _ _ _ (by rw [← HR2.out]; omega), hbl]
      have hI2 : IsH w2 b s (splice blk u cs) N := ⟨hbl2, hB2⟩
      have hsz2 := hI2.size
      have hfz2 : w2.frozen? ⟨b, 72, none⟩ = false := hB2.frozen _
      have HI2 := Lib.hid hI2; have Z2 := Lib.hid z2; have HBL2 := Lib.hid hbl2
      clear hI2 hB2 z2 hbl2 hsz hfz hsl hum
      have hNr : (N : Int) + r ≤ 9223372036854775807 := by have := HN.out; rw [List.length_append, List.length_take] at this; omega
      have hcut : ∀ wx, (Instr.slice 42 (.slice A' R c') (some (.int .i64 r)) none none).run Tryz.prog wx = .ok (.slice (cutA A' c' r) (R - r) (c' - r)) wx := run_slice_from _ _ u8s_under (fun _ => by kernel_rfl) A' R c' r hr1
      have HG : Hid (∀ j, ab (cutA A' c' r) = some j → j ≠ b) := Lib.hid (by rw [ab_cut]; exact hA')
      have HRW : Hid (Row wr (cutA A' c' r) (bvs (ml.drop (k + r)))) := Lib.hid (by
        have := hrow.cut (c := c') (k := r) (by rw [bvs_length, List.length_drop, HM.out, ← HR.out]; omega)
        rwa [bvs, ← List.map_drop, List.drop_drop] at this)
      have HTK : Hid (l ++ ml.take (k + r) = l ++ ml.take k ++ cs) := Lib.hid (by
        rw [HCS.out, List.append_assoc, List.take_add]
        congr 2
        apply List.take_eq_take_iff.2
        have := HR2.out; rw [HCS.out, List.length_take] at this; rw [List.length_drop] at *; omega)
      generalize cutA A' c' r = A2 at hcut HG HRW
      obtain ⟨R2, hR2⟩ : ∃ x, x = R - r := ⟨_, rfl⟩
      obtain ⟨c2, hc2'⟩ : ∃ x, x = c' - r := ⟨_, rfl⟩
      rw [← hR2, ← hc2'] at hcut
      have HRR := Lib.hid hR2; have HC2 := Lib.hid hc2'
      clear hR2 hc2'
      have hz2 : w2.frozen? ⟨b, 72, none⟩ = false := hfz2
      have hI3 : Hid (IsH (w2.setCell ⟨b, 72, none⟩ (.int .i64 ((N : Int) + r))) b s (splice blk u cs) (N + r)) := Lib.hid ⟨HBL2.out, by
        have := HI2.out.2.set_ 72 (.int .i64 ((N : Int) + r))
        rw [cells_size _ _ _ _ HBL2.out] at this
        simpa using this⟩
      have K3 : Kp (oneB b) w (w2.setCell ⟨b, 72, none⟩ (.int .i64 ((N : Int) + r))) := (hkp.drew.trans k2 (fun _ e => .inl e)).setCell (p := ⟨b, 72, none⟩) (.inl rfl) _
      have T3 := ht.keep K3 (fun k e => by cases e; exact hb)
      have R3 : Row (w2.setCell ⟨b, 72, none⟩ (.int .i64 ((N : Int) + r))) A2 (bvs (ml.drop (k + r))) := HRW.out.keep (F := oneB b) (((Kp.refl _ wr).drew.trans k2 (fun _ e => .inl e)).setCell (p := ⟨b, 72, none⟩) (.inl rfl) _) (fun j e e' => HG.out j e e')
      have hlen : (l ++ ml.take k).length = N := HN.out.symm
      have HLEN := Lib.hid hlen; clear hlen
      by_cases hfull : u + r = 64
      · have hmod : (((N : Int) + r) % 64 == 0) = true := by rw [beq_iff_eq]; have := HU.out; omega
        have HFU := Lib.hid hfull; clear hfull
        go_wp2_with fail
        refine (mix_any b s _ _ _ hI3.out T3).mono ?_
        rintro e w4 ⟨rfl, hI4, k4⟩
        have hT : Taken (l ++ ml.take k ++ cs) (next s (splice blk u cs)) (splice blk u cs) := by
          have := HH.out.full (cs := cs) (by have := HLEN.out; have := HU.out; have := HFU.out; have := HR2.out; omega)
          rwa [HLEN.out, ← HU.out] at this
        have hfin : Hid (Has w4 b (l ++ ml.take (k + r))) := Lib.hid (by
          rw [HTK.out]
          exact ⟨_, _, hT, by rw [List.length_append, HLEN.out, ← HR2.out]; exact hI4⟩)
        clear hI4 hT
        go_wp2
        refine ⟨⟨k + r, A2, c2, ?_, ?_, ?_, ?_, hfin.out, K3.trans k4 (fun _ e => .inl e), R3.keep k4 (fun j e e' => HG.out j e e'), .inr HG.out⟩, ?_⟩
        · have := HR.out; omega
        · rw [show m - (k + r) = R2 by have := HR.out; have := HRR.out; omega]
        · have := HR.out; have := HC2.out; omega
        · have := HC2.out; omega
        · show R2 < R; have := HRR.out; omega
      · have hmod : (((N : Int) + r) % 64 == 0) = false := by rw [beq_eq_false_iff_ne]; have := HU.out; omega
        have hT : Taken (l ++ ml.take k ++ cs) s (splice blk u cs) := by
          have := HH.out.more (cs := cs) (by have := HLEN.out; have := HU.out; have := HR2.out; omega)
          rwa [HLEN.out, ← HU.out] at this
        have hfin : Hid (Has (w2.setCell ⟨b, 72, none⟩ (.int .i64 ((N : Int) + r))) b (l ++ ml.take (k + r))) := Lib.hid (by
          rw [HTK.out]
          exact ⟨_, _, hT, by rw [List.length_append, HLEN.out, ← HR2.out]; exact hI3.out⟩)
        clear hT
        go_wp2
        refine ⟨⟨k + r, A2, c2, ?_, ?_, ?_, ?_, hfin.out, K3, R3, .inr HG.out⟩, ?_⟩
        · have := HR.out; omega
        · rw [show m - (k + r) = R2 by have := HR.out; have := HRR.out; omega]
        · have := HR.out; have := HC2.out; omega
        · have := HC2.out; omega
        · show R2 < R; have := HRR.out; omega
    · obtain rfl : k = m := by omega
      have hfin : Has wr b (l ++ ml) := by rwa [List.take_of_length_le (by omega)] at hh
      have hz : k - k = 0 := by omega
      clear hN hN2
      go_wp2
      go_end0
      exact ⟨rfl, hfin, hkp⟩
theorem u8_zero [Inhabited Sha.ShaTab] : ∀ w, (zeroValue 5).run Tryz.prog w = .ok (.int .u8 0) w := fun _ => by kernel_rfl
theorem slice_block_i [Inhabited Sha.ShaTab] (b i : Nat) (hu : i ≤ 64) (w : World) : (Instr.sliceAt 215 (.pointer (some ⟨b, 8, none⟩)) (some (.int .i64 (i : Int))) none none).run Tryz.prog w = .ok (.slice (if 64 = i then some ⟨b, 8, none⟩ else some ⟨b, 8 + i, none⟩) (64 - i) (64 - i)) w := by
  have ha : Tryz.prog.underlying 215 = some (.array (Tryz.prog.arrayLen 215) (Tryz.prog.elem 215)) := by kernel_rfl
  have hl : Tryz.prog.arrayLen 215 = 64 := by kernel_rfl
  have he : Tryz.prog.elem 215 = 5 := by kernel_rfl
  have hz : ∀ w, (sizeOf 5).run Tryz.prog w = .ok 1 w := fun _ => by kernel_rfl
  rw [run_sliceAt_array_l w _ _ ha _ _ (by omega) (by rw [hl]; omega), hl, he, hz]
  simp only [Result.andThen, slicedAt, Int.toNat_natCast, Nat.mul_one, Addr.add_mid]
  by_cases h : 64 = i <;> simp [h]
def ended (blk : List UInt8) (u : Nat) : List UInt8 := blk.take u ++ 128 :: List.replicate (63 - u) 0
theorem ended_length (blk : List UInt8) (u : Nat) (h : blk.length = 64) (hu : u < 64) : (ended blk u).length = 64 := by simp [ended]; omega
theorem ended_cells (s : St) (blk : List UInt8) (u : Nat) (v : Value) (h : blk.length = 64) (hu : u < 64) :
    splice ((uvs s.list ++ bvs blk ++ [v]).set (8 + u) (.int .u8 128)) (8 + (u + 1)) (List.replicate (63 - u) (.int .u8 0)) = uvs s.list ++ bvs (ended blk u) ++ [v] := by
  have e1 : (uvs s.list ++ bvs blk ++ [v]).set (8 + u) (.int .u8 128) = uvs s.list ++ bvs (blk.set u 128) ++ [v] := by
    rw [List.append_assoc, List.set_append_right _ _ (by simp [St.list]), List.set_append_left _ _ (by simp [St.list]; omega), ← List.append_assoc]
    congr 2
    rw [show 8 + u - (uvs s.list).length = u by simp [St.list], bvs, bvs, List.map_set]; rfl
  have e2 : List.replicate (63 - u) (Value.int .u8 0) = bvs (List.replicate (63 - u) 0) := by rw [bvs, List.map_replicate]; rfl
  rw [e1, e2, cells_splice _ _ _ _ _ (by simp; omega)]
  congr 3
  unfold splice ended
  rw [List.take_succ_eq_append_getElem (by simp; omega), List.take_set_of_le (Nat.le_refl _), List.drop_eq_nil_of_le (by simp; omega)]
  simp
theorem zeroed_cells (s : St) (blk : List UInt8) (v : Value) (h : blk.length = 64) :
    splice (uvs s.list ++ bvs blk ++ [v]) 8 (List.replicate 64 (.int .u8 0)) = uvs s.list ++ bvs (List.replicate 64 0) ++ [v] := by
  have e2 : List.replicate 64 (Value.int .u8 0) = bvs (List.replicate 64 0) := by rw [bvs, List.map_replicate]; rfl
  rw [e2]
  have := cells_splice s blk (List.replicate 64 0) 0 v (by simp; omega)
  rw [Nat.add_zero] at this
  rw [this]
  congr 3
  unfold splice
  rw [List.drop_eq_nil_of_le (by simp; omega)]
  simp
def cnt (B : List UInt8) (n i : Nat) : List UInt8 := B.take (64 - i) ++ (le i (8 * n)).reverse
theorem cnt_zero (B : List UInt8) (n : Nat) (h : B.length = 64) : cnt B n 0 = B := by simp only [cnt, le, List.reverse_nil, List.append_nil, Nat.sub_zero]; exact List.take_of_length_le (by omega)
theorem cnt_succ (B : List UInt8) (n i : Nat) (h : B.length = 64) (hi : i < 8) : (cnt B n i).set (63 - i) (UInt8.ofNat (8 * n / 256 ^ i)) = cnt B n (i + 1) := by
  unfold cnt
  rw [List.set_append_left _ _ (by simp; omega), le_snoc, List.reverse_append, List.reverse_singleton, show 64 - i = 63 - i + 1 by omega, List.take_succ_eq_append_getElem (by omega), List.set_append_right _ _ (by simp; omega)]
  have e : (B.take (63 - i)).length = 63 - i := by simp; omega
  simp [e, show 64 - (i + 1) = 63 - i by omega]
theorem ended_take (blk : List UInt8) (u : Nat) (h : blk.length = 64) (hu : u ≤ 55) : (ended blk u).take (64 - 8) = blk.take u ++ 128 :: List.replicate (55 - u) 0 := by
  unfold ended
  rw [List.take_append, List.take_of_length_le (by simp; omega)]
  congr 1
  rw [show 64 - 8 - (blk.take u).length = (55 - u) + 1 by simp; omega, List.take_succ_cons, List.take_replicate, Nat.min_eq_left (by omega)]
theorem cntv (N i : Nat) (h : N ≤ 1099511627776) : IntKind.u64.wrap (8 * IntKind.u64.wrap (N : Int)) / 2 ^ (8 * i) % 256 = ((8 * N / 256 ^ i : Nat) : Int) % 256 := by
  rw [IntKind.wrap_u64, IntKind.wrap_u64]
  have e : (8 * ((N : Int) % 18446744073709551616)) % 18446744073709551616 = ((8 * N : Nat) : Int) := by omega
  rw [e, ← pow256]
  simp
theorem IsH.setb {w : World} {b : Nat} {s : St} {l : List UInt8} {n : Nat} (h : IsH w b s l n) (j : Nat) (x : UInt8) (hj : j < 64) : IsH (w.setCell ⟨b, 8 + j, none⟩ (bv x)) b s (l.set j x) n := by
  refine ⟨by rw [List.length_set]; exact h.1, ?_⟩
  have := h.2.set_ (8 + j) (bv x)
  have hl := h.1
  rw [List.append_assoc, List.set_append_right _ _ (by simp [St.list]), List.set_append_left _ _ (by simp [St.list]; omega), ← List.append_assoc, show 8 + j - (uvs s.list).length = j by simp [St.list], bvs, ← List.map_set] at this
  exact this
set_option maxHeartbeats 4000000 in
theorem end_any [Inhabited Sha.ShaTab] (b : Nat) (s : St) (l blk : List UInt8) (w : World) (h : IsH w b s blk l.length) (hT : Taken l s blk) (ht : Tabs w) (hb : Far b) (hl : l.length ≤ 1099511627776) :
    Calls Tryz.prog 153 #[.pointer (some ⟨b, 0, none⟩)] w fun e w' => e = .returned (.tuple #[]) ∧ (∃ blk' n, IsH w' b (run H0 (padded l) ((padded l).length / 64)) blk' n) ∧ Kp (oneB b) w w' := by
  obtain ⟨N, hN⟩ : ∃ N, N = l.length := ⟨_, rfl⟩
  rw [← hN] at h
  have hsz := h.size
  have hbl := h.1
  obtain ⟨u, hu⟩ : ∃ u, u = N % 64 := ⟨_, rfl⟩
  have hu1 : u < 64 := by omega
  have hum : ((N : Int).tmod 64) = (u : Int) := by rw [Int.tmod_eq_emod_of_nonneg (by omega)]; omega
  have hum2 : ((N : Int) % 64) = (u : Int) := by omega
  obtain ⟨x, hcu⟩ : ∃ x, w.cell? ⟨b, 8 + u, none⟩ = some (.int .u8 x) := ⟨_, h.block u _ (bvs_get (by omega))⟩
  have hfu : w.frozen? ⟨b, 8 + u, none⟩ = false := h.2.frozen _
  have H := Lib.hid h
  have hsl := slice_block_i b (u + 1) (by omega)
  have hsl0 := slice_block_i b 0 (by omega)
  have HN := Lib.hid hN; have HU := Lib.hid hu; have HBL := Lib.hid hbl; have HT := Lib.hid hT
  clear hN hu h hbl hT
  obtain ⟨Z, hZ, hZ2⟩ : ∃ Z, Z = (if 64 = u + 1 then some (⟨b, 8, none⟩ : Addr) else some ⟨b, 8 + (u + 1), none⟩) ∧ (0 < 63 - u → Z = some ⟨b, 8 + (u + 1), none⟩) := ⟨_, rfl, fun h => if_neg (by omega)⟩
  rw [← hZ] at hsl
  simp at hsl hsl0
  have HZ := Lib.hid hZ2; clear hZ hZ2
  by_cases hbig : 56 ≤ u
  · have hd : decide ((56 : Int) < (u : Int) + 1) = true := by simp; omega
    go_enter Tryz.func153, Tryz.ntmps153
    go_wp2_with (first
      | (refine wpList_clear_blk rfl (.tmp 21) 42 rfl 5 u8s_under _ u8_zero rfl rfl b (8 + (u + 1)) Z (63 - u) (63 - u) rfl _ 219 (H.out.2.set_ (8 + u) (.int .u8 128)) HZ.out (by simp [St.list, HBL.out]; omega) ?_
         rw [ended_cells s blk u _ HBL.out hu1]
         intro w2 hB2 k2 z2
         have I2 : Hid (IsH w2 b s (ended blk u) N) := Lib.hid ⟨ended_length blk u HBL.out hu1, hB2⟩
         have K2 : Kp (oneB b) w w2 := ((Kp.refl (oneB b) w).setCell (p := ⟨b, 8 + u, none⟩) (.inl rfl) _).trans k2 (fun _ e => .inl e)
         have T2 := Lib.hid (ht.keep K2 (fun k e => by cases e; exact hb))
         clear hB2 k2 z2)
      | (go_at_call 164
         refine (mix_any b s _ _ _ I2.out T2.out).mono ?_
         rintro e w3 ⟨rfl, hI3, k3⟩
         have I3 := Lib.hid hI3
         have K3 := K2.trans k3 (fun _ e => .inl e)
         clear hI3 k3)
      | (refine wpList_clear_blk rfl (.tmp 29) 42 rfl 5 u8s_under _ u8_zero rfl rfl b 8 (some ⟨b, 8, none⟩) 64 64 rfl _ 219 I3.out.2 (fun _ => rfl) (by simp [St.list, I3.out.1]) ?_
         rw [zeroed_cells _ _ _ I3.out.1]
         intro w4 hB4 k4 z4
         have hI4 : IsH w4 b (next s (ended blk u)) (List.replicate 64 0) N := ⟨by simp, hB4⟩
         have hsz4 := hI4.size
         have I4 := Lib.hid hI4
         have K4 := K3.trans k4 (fun _ e => .inl e)
         clear hI4 hB4 k4 z4))
    have HB4 : Hid ((List.replicate 64 (0 : UInt8)).length = 64) := Lib.hid (by simp)
    go_loopw [36] (fun vi wr => ∃ i : Nat, i ≤ 8 ∧ vi = .int .i64 i ∧ IsH wr b (next s (ended blk u)) (cnt (List.replicate 64 0) N i) N ∧ Kp (oneB b) w wr)
      (fun vi _ => 8 - (intOf vi).toNat)
    case atStart => exact ⟨0, by omega, rfl, by rw [cnt_zero _ _ I4.out.1]; exact I4.out, K4⟩
    case round =>
      obtain ⟨i, hi, rfl, hI, hK⟩ := hrel
      have HI := Lib.hid hI
      clear K4 hsz4
      by_cases hlt : i < 8
      · obtain ⟨j, hj⟩ : ∃ j, j = 63 - i := ⟨_, rfl⟩
        have hj1 : j < 64 := by omega
        have hji : IntKind.i64.wrap (63 - (i : Int)) = (j : Int) := by rw [IntWalk.i64_in _ (by omega)]; omega
        obtain ⟨y, hcj⟩ : ∃ y, wr.cell? ⟨b, 8 + j, none⟩ = some (.int .u8 y) := ⟨_, hI.block j _ (bvs_get (by rw [hI.1]; omega))⟩
        have hfj : wr.frozen? ⟨b, 8 + j, none⟩ = false := hI.2.frozen _
        have HJ := Lib.hid hj; clear hj hI
        go_wp2
        go_region
        go_wp2
        go_roundw
        case rel =>
          rw [cntv N i (by rw [HN.out]; exact hl), ← bv_ofNat]
          refine ⟨i + 1, by omega, by go_num, ?_, (hK.setCell (p := ⟨b, 8 + j, none⟩) (.inl rfl) _).drew⟩
          have := (HI.out.setb j (UInt8.ofNat (8 * N / 256 ^ i)) hj1).keep (Kp.refl nob _).drew (fun e => e)
          rw [HJ.out, cnt_succ _ _ _ HB4.out hlt, ← HJ.out] at this
          exact this
        case measure => simp [intOf]; omega
      · obtain rfl : i = 8 := by omega
        have hTb := ht.keep hK (fun k e => by cases e; exact hb)
        have hfin := Lib.hid (show next (next s (ended blk u)) (cnt (List.replicate 64 0) N 8) = run H0 (padded l) ((padded l).length / 64) by rw [HT.out.last2 (by rw [← HN.out, ← HU.out]; exact hbig), ← HN.out, ← HU.out]; simp [cnt, ended])
        go_wp2_with fail
        refine (mix_any b _ _ _ _ hI hTb).mono ?_
        rintro e w5 ⟨rfl, hI5, k5⟩
        rw [hfin.out] at hI5
        go_wp2
        go_end0
        exact ⟨rfl, ⟨_, _, hI5⟩, hK.trans k5 (fun _ e => .inl e)⟩
  · have hd : decide ((56 : Int) < (u : Int) + 1) = false := by simp; omega
    go_enter Tryz.func153, Tryz.ntmps153
    go_wp2_with (first
      | (refine wpList_clear_blk rfl (.tmp 21) 42 rfl 5 u8s_under _ u8_zero rfl rfl b (8 + (u + 1)) Z (63 - u) (63 - u) rfl _ 219 (H.out.2.set_ (8 + u) (.int .u8 128)) HZ.out (by simp [St.list, HBL.out]; omega) ?_
         rw [ended_cells s blk u _ HBL.out hu1]
         intro w4 hB4 k4 z4
         have hI4 : IsH w4 b s (ended blk u) N := ⟨ended_length blk u HBL.out hu1, hB4⟩
         have hsz4 := hI4.size
         have I4 := Lib.hid hI4
         have K4 : Kp (oneB b) w w4 := ((Kp.refl (oneB b) w).setCell (p := ⟨b, 8 + u, none⟩) (.inl rfl) _).trans k4 (fun _ e => .inl e)
         clear hI4 hB4 k4 z4))
    have HB4 : Hid ((ended blk u).length = 64) := Lib.hid (ended_length blk u HBL.out hu1)
    go_loopw [36] (fun vi wr => ∃ i : Nat, i ≤ 8 ∧ vi = .int .i64 i ∧ IsH wr b (s) (cnt (ended blk u) N i) N ∧ Kp (oneB b) w wr)
      (fun vi _ => 8 - (intOf vi).toNat)
    case atStart => exact ⟨0, by omega, rfl, by rw [cnt_zero _ _ I4.out.1]; exact I4.out, K4⟩
    case round =>
      obtain ⟨i, hi, rfl, hI, hK⟩ := hrel
      have HI := Lib.hid hI
      clear K4 hsz4
      by_cases hlt : i < 8
      · obtain ⟨j, hj⟩ : ∃ j, j = 63 - i := ⟨_, rfl⟩
        have hj1 : j < 64 := by omega
        have hji : IntKind.i64.wrap (63 - (i : Int)) = (j : Int) := by rw [IntWalk.i64_in _ (by omega)]; omega
        obtain ⟨y, hcj⟩ : ∃ y, wr.cell? ⟨b, 8 + j, none⟩ = some (.int .u8 y) := ⟨_, hI.block j _ (bvs_get (by rw [hI.1]; omega))⟩
        have hfj : wr.frozen? ⟨b, 8 + j, none⟩ = false := hI.2.frozen _
        have HJ := Lib.hid hj; clear hj hI
        go_wp2
        go_region
        go_wp2
        go_roundw
        case rel =>
          rw [cntv N i (by rw [HN.out]; exact hl), ← bv_ofNat]
          refine ⟨i + 1, by omega, by go_num, ?_, (hK.setCell (p := ⟨b, 8 + j, none⟩) (.inl rfl) _).drew⟩
          have := (HI.out.setb j (UInt8.ofNat (8 * N / 256 ^ i)) hj1).keep (Kp.refl nob _).drew (fun e => e)
          rw [HJ.out, cnt_succ _ _ _ HB4.out hlt, ← HJ.out] at this
          exact this
        case measure => simp [intOf]; omega
      · obtain rfl : i = 8 := by omega
        have hTb := ht.keep hK (fun k e => by cases e; exact hb)
        have hfin := Lib.hid (show next s (cnt (ended blk u) N 8) = run H0 (padded l) ((padded l).length / 64) by rw [HT.out.last (by rw [← HN.out, ← HU.out]; omega), ← HN.out, ← HU.out, cnt, ended_take _ _ HBL.out (by omega)])
        go_wp2_with fail
        refine (mix_any b _ _ _ _ hI hTb).mono ?_
        rintro e w5 ⟨rfl, hI5, k5⟩
        rw [hfin.out] at hI5
        go_wp2
        go_end0
        exact ⟨rfl, ⟨_, _, hI5⟩, hK.trans k5 (fun _ e => .inl e)⟩
theorem u8s_info : (Tryz.prog.info? 5).map (fun i => (i.zero, i.size, i.bytes)) = some (some (.int .u8 0), 1, 1) := by kernel_rfl
theorem arr8u : Tryz.prog.underlying 112 = some (.array 8 111) := by kernel_rfl
theorem arr32b : Tryz.prog.underlying 32 = some (.array 32 5) := by kernel_rfl
def dig (s : St) (k : Nat) : List UInt8 := (digest s).take k ++ List.replicate (32 - k) 0
theorem dig_set (s : St) (k : Nat) (h : k < 32) : (dig s k).set k (UInt8.ofNat ((s.list.getD (k / 4) 0).toNat / 2 ^ (24 - 8 * (k % 4)))) = dig s (k + 1) := by
  have hl := digest_length s
  have e : (digest s)[k]'(by omega) = UInt8.ofNat ((s.list.getD (k / 4) 0).toNat / 2 ^ (24 - 8 * (k % 4))) := by simp [digest]
  rw [← e]
  unfold dig
  have e2 : (digest s).take (k + 1) = (digest s).take k ++ [(digest s)[k]'(by omega)] := List.take_succ_eq_append_getElem (by omega)
  have e3 : ((digest s).take k).length = k := by simp; omega
  rw [e2, List.set_append_right _ _ (by omega), e3, Nat.sub_self, show 32 - k = 32 - (k + 1) + 1 by omega, List.replicate_succ, List.append_assoc]
  rfl
theorem dig_end (s : St) : dig s 32 = digest s := by
  unfold dig; rw [List.take_of_length_le (by rw [digest_length]; omega)]; simp
theorem cw_byte (x : UInt32) (k : Nat) : cw x / 2 ^ k % 256 = ((x.toNat / 2 ^ k : Nat) : Int) % 256 := by simp [cw]
set_option maxHeartbeats 1000000 in
set_option maxRecDepth 100000 in
theorem digest_any (s : St) (w : World) :
    Calls Tryz.prog 154 #[.agg (uvs s.list).toArray] w fun e w' => e = .returned (.agg (bvs (digest s)).toArray) ∧ Kp nob w w' := by
  go_enter Tryz.func154, Tryz.ntmps154
  go_wp2
  go_loopw [5] (fun vi wr => ∃ k : Nat, k ≤ 32 ∧ vi = .int .i64 k ∧ Blk wr w.heap.size 112 (uvs s.list) ∧ (∃ z, z.length = 32 ∧ Blk wr (w.heap.size + 1) 32 z) ∧ Blk wr (w.heap.size + 2) 32 (bvs (dig s k)) ∧ Kp nob w wr)
    (fun vi _ => 32 - (intOf vi).toNat)
  case atStart => exact ⟨0, by omega, rfl, ((Blk.new' rfl rfl).alloc _).alloc _, ⟨_, rfl, (Blk.new' (by simp) rfl).alloc _⟩, Blk.new' (by simp) rfl, (((Kp.refl _ _).alloc _).alloc _).alloc _⟩
  case round =>
    obtain ⟨k, hk, rfl, h1, ⟨z, hz, h2⟩, h3, hkp⟩ := hrel
    have H1 := Lib.hid h1; have H2 := Lib.hid h2; have H3 := Lib.hid h3; have HZ := Lib.hid hz
    clear h1 h2 h3 hz
    by_cases hlt : k < 32
    · obtain ⟨X, hX⟩ : ∃ X, X = s.list.getD (k / 4) 0 := ⟨_, rfl⟩
      have hc : wr.cell? ⟨w.heap.size, k / 4, none⟩ = some (.int .u32 (cw X)) := by
        have h8 : s.list.length = 8 := rfl
        rw [H1.out.cell, uvs, List.getElem?_map, List.getElem?_eq_getElem (by omega), hX, List.getD, List.getElem?_eq_getElem (by omega)]; rfl
      obtain ⟨y, hy⟩ : ∃ y, wr.cell? ⟨w.heap.size + 2, k, none⟩ = some (.int .u8 y) := ⟨_, by
        rw [H3.out.cell, bvs_get (show k < (dig s k).length by simp [dig, digest_length]; omega)]; rfl⟩
      have hf : wr.frozen? ⟨w.heap.size + 2, k, none⟩ = false := H3.out.frozen _
      obtain ⟨j, hj⟩ : ∃ j, j = 24 - 8 * (k % 4) := ⟨_, rfl⟩
      have hj1 : (24 : Int) - 8 * ((k : Int) % 4) = (j : Int) := by omega
      have hj2 : j ≤ 32 := by omega
      have HX := Lib.hid hX; have HJ := Lib.hid hj
      clear hX hj
      go_wp2
      go_roundw
      case rel =>
        rw [cw_byte, ← bv_ofNat]
        refine ⟨k + 1, by omega, by go_num, H1.out.far (by simp; omega) _, ⟨z, HZ.out, H2.out.far (by simp) _⟩, ?_, hkp.setCell (p := ⟨w.heap.size + 1 + 1, k, none⟩) (.inr (by simp; omega)) _⟩
        have := H3.out.set_ k (bv (UInt8.ofNat (X.toNat / 2 ^ j)))
        rw [bvs, ← List.map_set, HX.out, HJ.out, dig_set s k hlt, ← HX.out, ← HJ.out] at this
        exact this
      case measure => simp [intOf]; omega
    · obtain rfl : k = 32 := by omega
      go_wp2_with (first
        | (refine wpList_load_blk rfl 32 (.tmp 3) rfl _ _ _ H3.out rfl _ arr32b rfl (by kernel_rfl) ?_)
        | (refine wpList_store_blk rfl 32 (.tmp 2) (.tmp 21) rfl _ _ z (bvs (dig s 32)) H2.out rfl rfl (by rw [HZ.out]; rfl) (by kernel_rfl) (bvs_one _) ?_; intro w2 hB2 k2 z2))
      refine bodyPost_ret (results_cell_row rfl _ _ (w.heap.size + 1) _ _ _ _ rfl hB2 arr32b rfl (by kernel_rfl)) rfl ⟨by rw [dig_end], hkp.since k2 (fun i e => by cases e; omega)⟩
set_option maxHeartbeats 1000000 in
set_option maxRecDepth 100000 in
theorem new_any [Inhabited Sha.ShaTab] (w : World) (ht : Tabs w) :
    Calls Tryz.prog 142 #[] w fun e w' => ∃ b, e = .returned (.pointer (some ⟨b, 0, none⟩)) ∧ Has w' b [] ∧ Kp nob w w' ∧ w.heap.size ≤ b := by
  go_enter Tryz.func142, Tryz.ntmps142
  go_wp2_with (first
    | (refine wpList_load_mid rfl 112 (.global 0) rfl 0 0 rfl (uvs H0.list) _ ht.start arr8u rfl (by kernel_rfl) ?_)
    | (refine wpList_built rfl 219 _ rfl (.agg (uvs H0.list ++ bvs (List.replicate 64 0) ++ [Value.int .i64 (0 : Nat)]).toArray) (by kernel_rfl) ?_))
  go_ret
  have hB : Blk (w.alloc (.cells (uvs H0.list ++ (bvs (List.replicate 64 0) ++ [Value.int .i64 0])).toArray 219)) w.heap.size 219 (uvs H0.list ++ bvs (List.replicate 64 0) ++ [Value.int .i64 (0 : Nat)]) := Blk.new' rfl (by simp)
  exact ⟨_, rfl, ⟨H0, List.replicate 64 0, .none _ (by simp), by simp, hB⟩, (Kp.refl _ _).alloc _, Nat.le_refl _⟩
set_option maxHeartbeats 1000000 in
theorem write_any [Inhabited Sha.ShaTab] (b : Nat) (l : List UInt8) (A : Option Addr) (m c : Nat) (ps : List Pc) (w : World) (h : Has w b l) (ht : Tabs w) (hb : Far b) (hm : ps.length = m) (hr : Row w A (ps.map Pc.v)) (hA : ps = [] ∨ ∀ k, ab A = some k → k ≠ b) (hp : PcsOk w (oneB b) ps) (hmm : m ≤ 1099511627776) (hl : l.length + (catP ps).length ≤ 1099511627776) :
    Calls Tryz.prog 143 #[.pointer (some ⟨b, 0, none⟩), .slice A m c] w fun e w' => e = .returned (.tuple #[]) ∧ Has w' b (l ++ catP ps) ∧ Kp (oneB b) w w' := by
  go_enter Tryz.func143, Tryz.ntmps143
  go_wp2
  go_loopw [10] (fun i wr => ∃ k : Nat, k ≤ m ∧ i = .int .i64 k ∧ Has wr b (l ++ catP (ps.take k)) ∧ Kp (oneB b) w wr)
    (fun i _ => m - (intOf i).toNat)
  case atStart => exact ⟨0, Nat.zero_le _, rfl, by simpa [catP] using h, Kp.refl _ _⟩
  case round =>
    obtain ⟨k, hk, rfl, hh, hkp⟩ := hrel
    by_cases hlt : k < m
    · obtain ⟨p, hpk⟩ : ∃ p, p = ps[k]'(by omega) := ⟨_, rfl⟩
      replace hA := hA.resolve_left (fun e => by rw [e] at hm; simp at hm; omega)
      obtain ⟨bb, oo, rfl, hbb, hcell⟩ := hr.at_ (i := k) (by simp [hm]; exact hlt)
      have hce : wr.cell? ⟨bb, oo + k, none⟩ = some (.slice p.A p.n p.c) := by rw [hkp.cell (p := ⟨bb, oo + k, none⟩) hbb (fun e => hA bb rfl e), hcell, hpk]; simp [Pc.v]
      obtain ⟨q1, q2, q3, q4, q5⟩ := hp p (by rw [hpk]; exact List.getElem_mem _)
      have q2' : Row wr p.A (bvs p.l) := by
        rcases q3 with e | q3
        · rw [e]; exact Row.nil _ _
        · exact q2.keep hkp q3
      have hT := ht.keep hkp (fun k e => by cases e; exact hb)
      have hsn := catP_snoc ps k (by omega)
      have hle := catP_le ps (k + 1)
      rw [hsn, List.length_append, ← hpk, q1] at hle
      rw [← hpk] at hsn
      have HS := Lib.hid hsn; have HQ := Lib.hid q1
      have hln : (l ++ catP (ps.take k)).length + p.n ≤ 1099511627776 := by rw [List.length_append]; omega
      have HLN := Lib.hid hln
      clear hsn hpk hcell hle hln q1
      go_wp2_with fail
      refine (take_any b _ p.A p.n p.c p.l _ hh hT hb HQ.out q2' (q3.imp_right (fun h k e e' => h k e e')) q4 q5 HLN.out).mono ?_
      rintro e w2 ⟨rfl, h2, k2⟩
      go_wp2
      go_roundw
      case rel => exact ⟨k + 1, by omega, by go_num, by rw [HS.out, ← List.append_assoc]; exact h2, hkp.trans k2 (fun _ e => .inl e)⟩
      case measure => simp [intOf]; omega
    · go_wp2
      go_end0
      obtain rfl : k = m := by omega
      rw [List.take_of_length_le (by omega)] at hh
      exact ⟨rfl, hh, hkp⟩
theorem row_of {P : Program} {t : TypeId} (h : (P.underlying t).any (·.isRow) = true) : ∃ d, P.underlying t = some d ∧ d.isRow = true := by
  cases hq : P.underlying t with
  | none => rw [hq] at h; cases h
  | some d => rw [hq] at h; exact ⟨d, rfl, h⟩
theorem hash_row : ∃ d, Tryz.prog.underlying 219 = some d ∧ d.isRow = true := row_of (by kernel_rfl)
def hcells (s : St) (blk : List UInt8) (n : Nat) : List Value := uvs s.list ++ bvs blk ++ [.int .i64 n]
def zcells : List Value := uvs (List.replicate 8 0) ++ bvs (List.replicate 64 0) ++ [.int .i64 0]
theorem zcells_size : zcells.toArray.size = 73 := rfl
theorem hcells_length (s : St) (blk : List UInt8) (n : Nat) (h : blk.length = 64) : (hcells s blk n).length = 73 := by simp [hcells, St.list, h]
theorem hash_zero [Inhabited Sha.ShaTab] : ∀ w, (zeroValue 219).run Tryz.prog w = .ok (.agg zcells.toArray) w := fun _ => by kernel_rfl
theorem hash_cells (s : St) (blk : List UInt8) (n : Nat) : ∀ u ∈ hcells s blk n, u.oneCell' = true := by
  intro u hu
  simp only [hcells, List.mem_append, List.mem_singleton] at hu
  rcases hu with (hu | hu) | rfl
  · exact uvs_one _ u hu
  · exact bvs_one _ u hu
  · rfl
set_option maxHeartbeats 1000000 in
set_option maxRecDepth 100000 in
theorem sum_any [Inhabited Sha.ShaTab] (b : Nat) (l : List UInt8) (w : World) (h : Has w b l) (ht : Tabs w) (hl : l.length ≤ 1099511627776) :
    Calls Tryz.prog 144 #[.pointer (some ⟨b, 0, none⟩)] w fun e w' => e = .returned (.agg (bvs (of l)).toArray) ∧ Kp nob w w' := by
  obtain ⟨s, blk, hT, hi⟩ := h
  obtain ⟨d, hst, hrow⟩ := hash_row
  have hz := hash_zero
  have hbl := hi.1
  have hB : Blk w b 219 (hcells s blk l.length) := hi.2
  have HB := Lib.hid hB; have HST := Lib.hid hst; have HBL := Lib.hid hbl; have HRW := Lib.hid hrow
  have hlen := hcells_length s blk l.length hbl
  have HLEN := Lib.hid hlen
  have HF := Lib.hid (of_eq l)
  have HT := Lib.hid hT
  clear hi hst hB hlen hbl hrow hT
  obtain ⟨L, hL⟩ : ∃ L, L = hcells s blk l.length := ⟨_, rfl⟩
  rw [← hL] at HB HLEN
  have h1 : ∀ u ∈ L, u.oneCell' = true := by rw [hL]; exact hash_cells _ _ _
  have H1 := Lib.hid h1; have HL := Lib.hid hL
  clear h1 hL
  go_enter Tryz.func144, Tryz.ntmps144
  go_wp2_with (first
    | (refine wpList_load_blk rfl 219 (.tmp 8) rfl b _ _ (HB.out.alloc _) rfl d HST.out HRW.out (by rw [HLEN.out]; kernel_rfl) ?_)
    | (refine wpList_store_newAt rfl 219 (.tmp 3) (.tmp 9) rfl _ L (w.heap.size + 1) (by simp) rfl rfl (by rw [HLEN.out]; exact zcells_size.symm) (by rw [HLEN.out]; kernel_rfl) H1.out ?_
       intro w2 hB2 k2 z2
       have hR : Hid (∃ z, Blk w2 w.heap.size 32 z ∧ z.length = 32) := Lib.hid ⟨_, (Blk.new' (w := w) rfl rfl).keep k2 (fun e => e), rfl⟩
       have K2 : Kp nob w w2 := ((Kp.refl nob w).alloc _).trans k2 (fun _ e => e.elim)
       have hI2 : Hid (IsH w2 (w.heap.size + 1) s blk l.length) := Lib.hid ⟨HBL.out, by have := hB2; rwa [HL.out] at this⟩
       have T2 := Lib.hid (ht.keep0 K2)
       clear k2 hB2))
  refine (end_any _ s l blk _ hI2.out HT.out T2.out (ht.far (by omega)) hl).mono ?_
  rintro e w3 ⟨rfl, ⟨blk', n', hI3⟩, k3⟩
  have hs3 := Lib.hid hI3.state
  have hR3 : Hid (∃ z, Blk w3 w.heap.size 32 z ∧ z.length = 32) := by
    obtain ⟨z, h1, h2⟩ := hR.out
    exact Lib.hid ⟨z, h1.keep k3 (fun e => by unfold oneB at e; omega), h2⟩
  have K3 : Kp nob w w3 := K2.since k3 (fun i e => by unfold oneB at e; omega)
  clear hI3 hR
  obtain ⟨fin, hfin⟩ : ∃ x, x = run H0 (padded l) ((padded l).length / 64) := ⟨_, rfl⟩
  rw [← hfin] at hs3
  have HFIN := Lib.hid hfin; clear hfin z2
  go_wp2_with (refine wpList_load_mid rfl 112 (.tmp 11) rfl (w.heap.size + 1) 0 rfl (uvs fin.list) _ hs3.out arr8u rfl (by kernel_rfl) ?_)
  refine (digest_any fin _).mono ?_
  rintro e w4 ⟨rfl, k4⟩
  obtain ⟨z, hz1, hz2⟩ := hR3.out
  have hz3 := Lib.hid (hz1.keep k4 (fun e => e)); have hz4 := Lib.hid hz2
  clear hz1 hz2 hR3
  go_wp2_with (refine wpList_store_blk rfl 32 (.tmp 2) (.tmp 13) rfl _ _ z (bvs (digest fin)) hz3.out rfl rfl (by rw [hz4.out, bvs_length, digest_length]) (by rw [bvs_length, digest_length]; kernel_rfl) (bvs_one _) ?_; intro w5 hB5 k5 z5)
  have hsz5 : (Tryz.prog.info? 32).map (·.size) = some (bvs (digest fin)).toArray.size := by
    rw [List.size_toArray, bvs_length, digest_length]; kernel_rfl
  refine bodyPost_ret (results_cell_row rfl _ _ w.heap.size _ _ _ _ rfl hB5 arr32b rfl hsz5) rfl ⟨by rw [HF.out, HFIN.out], (K3.trans k4 (fun _ e => e.elim)).since k5 (fun i e => by unfold oneB at e; omega)⟩
set_option maxHeartbeats 1000000 in
set_option maxRecDepth 100000 in
theorem of_any [Inhabited Sha.ShaTab] (A : Option Addr) (m c : Nat) (ps : List Pc) (w : World) (ht : Tabs w) (hm : ps.length = m) (hr : Row w A (ps.map Pc.v)) (hp : PcsOk w nob ps) (hmm : m ≤ 1099511627776) (hl : (catP ps).length ≤ 1099511627776) :
    Calls Tryz.prog 137 #[.slice A m c] w fun e w' => e = .returned (.agg (bvs (of (catP ps))).toArray) ∧ Kp nob w w' := by
  go_enter Tryz.func137, Tryz.ntmps137
  go_wp2_with fail
  have K0 : ∀ o : Obj, Kp nob w (w.alloc o) := fun o => (Kp.refl nob w).alloc o
  refine (new_any _ (ht.keep0 (K0 _))).mono ?_
  rintro e w2 ⟨b, rfl, h2, k2, n2⟩
  have hR : Hid (∃ z, Blk w2 w.heap.size 32 z ∧ z.length = 32) := Lib.hid ⟨_, (Blk.new' (w := w) rfl rfl).keep k2 (fun e => e), rfl⟩
  have K2 : Kp nob w w2 := (K0 _).trans k2 (fun _ e => e.elim)
  have n2' : w.heap.size < b := by simp at n2; omega
  have T2 := ht.keep0 K2
  have f2 := ht.far (Nat.le_of_lt n2')
  have r2 := hr.keep0 K2
  have p2 : PcsOk w2 (oneB b) ps := fun p h => by
    obtain ⟨q1, q2, q3, q4, q5⟩ := (hp.old (oneB b) (fun k e => by unfold oneB at e; omega)) p h
    exact ⟨q1, q2.keep0 K2, q3, q4, q5⟩
  have hA2 : ps = [] ∨ ∀ k, ab A = some k → k ≠ b := by
    by_cases hl : ps = []
    · exact .inl hl
    · exact .inr (fun k e => by have := hr.lt (by simpa using hl) k e; omega)
  clear k2 n2
  go_wp2_with fail
  refine (write_any b [] A m c ps _ h2 T2 f2 hm r2 hA2 p2 hmm (by simpa using hl)).mono ?_
  rintro e w3 ⟨rfl, h3, k3⟩
  have hR3 : Hid (∃ z, Blk w3 w.heap.size 32 z ∧ z.length = 32) := by
    obtain ⟨z, h1, h2⟩ := hR.out
    exact Lib.hid ⟨z, h1.keep k3 (fun e => by unfold oneB at e; omega), h2⟩
  have K3 : Kp nob w w3 := K2.since k3 (fun i e => by unfold oneB at e; omega)
  rw [List.nil_append] at h3
  clear hR
  go_wp2_with fail
  refine (sum_any b _ _ h3 (ht.keep0 K3) hl).mono ?_
  rintro e w4 ⟨rfl, k4⟩
  obtain ⟨z, hz1, hz2⟩ := hR3.out
  have hz3 := Lib.hid (hz1.keep k4 (fun e => e)); have hz4 := Lib.hid hz2
  clear hz1 hz2 hR3
  go_wp2_with (refine wpList_store_blk rfl 32 (.tmp 2) (.tmp 9) rfl _ _ z (bvs (of (catP ps))) hz3.out rfl rfl (by rw [hz4.out, bvs_length, of_length]) (by rw [bvs_length, of_length]; kernel_rfl) (bvs_one _) ?_; intro w5 hB5 k5 z5)
  have hsz5 : (Tryz.prog.info? 32).map (·.size) = some (bvs (of (catP ps))).toArray.size := by
    rw [List.size_toArray, bvs_length, of_length]; kernel_rfl
  refine bodyPost_ret (results_cell_row rfl _ _ w.heap.size _ _ _ _ rfl hB5 arr32b rfl hsz5) rfl ⟨rfl, (K3.trans k4 (fun _ e => e.elim)).since k5 (fun i e => by unfold oneB at e; omega)⟩
theorem eq32 [Inhabited Sha.ShaTab] (xs ys : List UInt8) (hx : xs.length = 32) (hy : ys.length = 32) (w : World) : (Op.equalIn 10000 32 (.agg (bvs xs).toArray) (.agg (bvs ys).toArray)).run Tryz.prog w = .ok (xs == ys) w :=
  run_equalIn_bytes w 9998 32 5 32 arr32b (by kernel_rfl) (fun _ => by kernel_rfl) xs ys hx hy
theorem of_one [Inhabited Sha.ShaTab] (p : Pc) (w : World) (t : TypeId) (g : Nat) (hg : g = w.heap.size) (ht : Tabs w) (hp : PcsOk w nob [p]) (hl : p.l.length ≤ 1099511627776) :
    Calls Tryz.prog 137 #[.slice (some ⟨g, 0, none⟩) 1 1] (w.alloc (.cells #[.slice p.A p.n p.c] t)) fun e w' => e = .returned (.agg (bvs (of p.l)).toArray) ∧ Kp nob w w' := by
  subst hg
  have K := (Kp.refl nob w).alloc (.cells #[.slice p.A p.n p.c] t)
  have e : catP [p] = p.l := by simp [catP]
  refine (of_any (some ⟨w.heap.size, 0, none⟩) 1 1 [p] _ (ht.keep0 K) rfl (row_one w _ t) (hp.keep0 K) (by omega) (by rw [e]; exact hl)).mono ?_
  rintro e' w' ⟨rfl, k⟩
  exact ⟨by rw [e], K.trans k (fun _ e => e.elim)⟩
theorem write_one [Inhabited Sha.ShaTab] (b : Nat) (l : List UInt8) (p : Pc) (w : World) (t : TypeId) (g : Nat) (hg : g = w.heap.size) (h : Has w b l) (ht : Tabs w) (hb : Far b) (hp : PcsOk w (oneB b) [p]) (hl : l.length + p.l.length ≤ 1099511627776) :
    Calls Tryz.prog 143 #[.pointer (some ⟨b, 0, none⟩), .slice (some ⟨g, 0, none⟩) 1 1] (w.alloc (.cells #[.slice p.A p.n p.c] t)) fun e w' => e = .returned (.tuple #[]) ∧ Has w' b (l ++ p.l) ∧ Kp (oneB b) w w' := by
  subst hg
  have K := (Kp.refl nob w).alloc (.cells #[.slice p.A p.n p.c] t)
  have hlt := h.lt
  have e : catP [p] = p.l := by simp [catP]
  have hne : ∀ k, ab (some (⟨w.heap.size, 0, none⟩ : Addr)) = some k → k ≠ b := by
    intro k e
    have : w.heap.size = k := by simpa [ab] using e
    omega
  refine (write_any b l (some ⟨w.heap.size, 0, none⟩) 1 1 [p] _ (h.keep K (fun e => e)) (ht.keep0 K) hb rfl (row_one w _ t) (.inr hne) (hp.keep K (fun _ e => e.elim)) (by omega) (by rw [e]; exact hl)).mono ?_
  rintro e' w' ⟨rfl, h2, k⟩
  exact ⟨rfl, by rw [e] at h2; exact h2, (K.nob (oneB b)).trans k (fun _ e => .inl e)⟩
theorem u8_string : Tryz.prog.underlying 9 = some .string := by kernel_rfl
theorem conv_row [Inhabited Sha.ShaTab] (w1 : World) (A2 : Option Addr) (n c : Nat) (l : List UInt8) (hn : l.length = n) (hr : Row w1 A2 (bvs l)) : (convert 42 9 (.slice A2 n c)).run Tryz.prog w1 = .ok (.string (str l)) w1 :=
  run_bytes_str w1 42 9 5 u8s_under (by kernel_rfl) u8_string A2 n c l hn hr
theorem bytes_of {xs : List Value} (h : ∀ u ∈ xs, ∃ x : UInt8, u = bv x) : ∃ l : List UInt8, xs = bvs l := by
  induction xs with
  | nil => exact ⟨[], rfl⟩
  | cons a xs ih =>
    obtain ⟨x, rfl⟩ := h a (by simp)
    obtain ⟨l, rfl⟩ := ih (fun u hu => h u (by simp [hu]))
    exact ⟨x :: l, rfl⟩
theorem u8_size [Inhabited Sha.ShaTab] : ∀ w, (sizeOf 5).run Tryz.prog w = .ok 1 w := fun _ => by kernel_rfl
theorem slice_to [Inhabited Sha.ShaTab] (A : Option Addr) (n c i : Nat) (hi : i ≤ c) (w : World) : (Instr.slice 42 (.slice A n c) none (some (.int .i64 i)) none).run Tryz.prog w = .ok (.slice A i c) w := by
  have he : Tryz.prog.elem 42 = 5 := by kernel_rfl
  rw [run_slice_h w 42 A n c (by kernel_rfl) .i64 i (by omega) (by omega), he, u8_size]
  cases A <;> simp [Result.andThen, sliced, Addr.add]
end Go.Proofs.YtiimfhacnfdmhaaGreat.Sha
