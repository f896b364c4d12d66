/- AesChains: what is sealed so often is opened so often, by the same blocks on the way. -/
import Derived.Test.YtdoioldlaehkhaaDoorAesKeeps
import Derived.Test.YtdoioldlaehkhaaDoorBlkD
namespace Go.Proofs.YtdoioldlaehkhaaDoor.Aes
open Go Go.RowKit Kit
open Field (cb cb_inj Sq)

/-- A block sealed i times; the blocks on the way, one behind the other. -/
def itn (W : List UInt8) (R : Nat) (b : List UInt8) : Nat → List UInt8
  | 0 => b
  | i + 1 => enc W R (itn W R b i)
def flat (W : List UInt8) (R : Nat) (b : List UInt8) : Nat → List UInt8
  | 0 => []
  | i + 1 => flat W R b i ++ itn W R b i
theorem itn_zero (W : List UInt8) (R : Nat) (b : List UInt8) : itn W R b 0 = b := rfl
theorem itn_succ (W : List UInt8) (R : Nat) (b : List UInt8) (i : Nat) : itn W R b (i + 1) = enc W R (itn W R b i) := rfl
theorem itn_length (W : List UInt8) (R : Nat) (b : List UInt8) (hb : b.length = 16) (i : Nat) : (itn W R b i).length = 16 := by
  cases i with
  | zero => exact hb
  | succ i => exact enc_length _ _ _
theorem flat_succ (W : List UInt8) (R : Nat) (b : List UInt8) (i : Nat) : flat W R b (i + 1) = flat W R b i ++ itn W R b i := rfl
theorem flat_one (W : List UInt8) (R : Nat) (b : List UInt8) : flat W R b 1 = b := rfl
theorem flat_length (W : List UInt8) (R : Nat) (b : List UInt8) (hb : b.length = 16) (i : Nat) : (flat W R b i).length = i * 16 := by
  induction i with
  | zero => rfl
  | succ i ih => rw [flat_succ, List.length_append, ih, itn_length W R b hb]; omega
theorem flat_at (W : List UInt8) (R : Nat) (b : List UInt8) (hb : b.length = 16) (i j k : Nat) (hj : j < i) (hk : k < 16) : (flat W R b i)[j * 16 + k]? = (itn W R b j)[k]? := by
  induction i with
  | zero => omega
  | succ i ih =>
    rw [flat_succ]
    by_cases h : j < i
    · rw [List.getElem?_append_left (by rw [flat_length W R b hb]; omega)]; exact ih h
    · obtain rfl : j = i := by omega
      rw [List.getElem?_append_right (by rw [flat_length W R b hb]; omega), flat_length W R b hb]
      congr 1; omega
attribute [irreducible] itn flat
theorem dec_itn (W : List UInt8) (R : Nat) (b : List UInt8) (hb : b.length = 16) (i : Nat) : dec W R (itn W R b (i + 1)) = itn W R b i := by
  rw [itn_succ, dec_enc _ _ _ (itn_length W R b hb i)]
theorem B_info : (Tryd.prog.info? 30).map (fun i => (i.zero, i.size, i.bytes)) = some (some (.agg (bvs noughts).toArray), 16, 16) := by kernel_rfl
theorem Bs_under : Tryd.prog.underlying 39 = some (.slice 30) := by kernel_rfl

theorem fold_from0 : ∀ (cs : List Value) (i : Nat) (zl : Array Value), zl.size = i + cs.length →
    ((cs.zipIdx i).foldl (fun c x => c.setIfInBounds x.snd x.fst) zl).toList = zl.toList.take i ++ cs := by
  intro cs
  induction cs with
  | nil =>
    intro i zl h
    simp only [List.length_nil, Nat.add_zero] at h
    simp only [List.zipIdx_nil, List.foldl_nil, List.append_nil]
    rw [List.take_of_length_le (by rw [Array.length_toList]; omega)]
  | cons u cs ih =>
    intro i zl h
    simp only [List.length_cons] at h
    rw [List.zipIdx_cons, List.foldl_cons, ih (i + 1) _ (by simp; omega)]
    simp only [Array.toList_setIfInBounds]
    rw [List.take_succ_eq_append_getElem (by simp; omega), List.take_set_of_le (Nat.le_refl _)]
    simp
theorem fold_all (cs : List Value) (zl : Array Value) (h : zl.size = cs.length) : cs.zipIdx.foldl (fun c x => c.setIfInBounds x.snd x.fst) zl = cs.toArray := by
  apply Array.toList_inj.1
  have := fold_from0 cs 0 zl (by omega)
  rw [this]; simp
theorem ownK_new (w : World) (k n : Nat) (e : TypeId) (xs : List Value) (hx : xs.length = n * k) (hm : n ≤ maxLen) : OwnK k e (w.alloc (.cells xs.toArray e)) (some ⟨w.heap.size, 0, none⟩) n n xs :=
  ⟨hx, .inr ⟨w.heap.size, n, xs.toArray, rfl, Nat.zero_le _, heap_alloc_new w _, Nat.le_refl _, hm, by simpa using hx, by simp [← hx]⟩⟩

/-- What stands on the way. -/
structure Chs (w : World) (g gx : Nat) (W : List UInt8) (R : Nat) (b : List UInt8) (i m : Nat) (M : Option Addr) (cM : Nat) (wr : World) : Prop where
  x : Blk wr gx 30 (bvs (itn W R b i))
  o : OwnK 16 30 wr M m cM (bvs (flat W R b m))
  c : Ciph wr g W R
  bb : Blk wr (w.heap.size + 1) 23 (bvs b)
  kp : Kp nob w wr
  far : ∀ k, ab M = some k → k ≠ gx ∧ k ≠ g ∧ w.heap.size + 1 < k
theorem Chs.keep {w : World} {g gx : Nat} {W : List UInt8} {R : Nat} {b : List UInt8} {i m : Nat} {M : Option Addr} {cM : Nat} {wr w2 : World} (h : Chs w g gx W R b i m M cM wr) (k : Kp nob wr w2) : Chs w g gx W R b i m M cM w2 :=
  ⟨h.x.keep k (fun e => e), h.o.keep k (fun _ _ e => e), h.c.keep0 k, h.bb.keep k (fun e => e), h.kp.trans k (fun _ e => e.elim), h.far⟩
theorem Chs.all {w : World} {g gx : Nat} {W : List UInt8} {R : Nat} {b : List UInt8} {i j m : Nat} {M : Option Addr} {cM : Nat} {wr w2 : World} (h : Chs w g gx W R b i m M cM wr) (hB : Blk w2 gx 30 (bvs (itn W R b j))) (k : Kp (oneB gx) wr w2) (hg : gx ≠ g) (hx : w.heap.size + 1 < gx) : Chs w g gx W R b j m M cM w2 :=
  ⟨hB, h.o.keep k (fun j e e' => (h.far j e).1 e'), h.c.keep k (fun e => hg e.symm), h.bb.keep k (fun e => by unfold oneB at e; omega), h.kp.since k (fun i e => by unfold oneB at e; omega), h.far⟩
/-- One block more is noted. -/
theorem Chs.grow {w : World} {g gx : Nat} {W : List UInt8} {R : Nat} {b : List UInt8} {i m : Nat} {M M2 : Option Addr} {cM c2 : Nat} {w5 w6 : World} {a : Obj} (h : Chs w g gx W R b i m M cM w5)
    (ho : OwnK 16 30 w6 M2 (m + 1) c2 (bvs (flat W R b m) ++ bvs (itn W R b m))) (hg : (w5.alloc a).grownBy w6 (ab M)) (hab : ab M2 = ab M ∨ ab M2 = some (w5.alloc a).heap.size) : Chs w g gx W R b i (m + 1) M2 c2 w6 := by
  have k : Kp (rowF M) w5 w6 := ((Kp.refl (rowF M) w5).alloc a).grown hg (fun k e => .inl e)
  refine ⟨h.x.keep k (fun e => (h.far _ e).1 rfl), by rw [flat_succ, bvs_append]; exact ho, h.c.keep k (fun e => (h.far _ e).2.1 rfl), h.bb.keep k (fun e => by have := (h.far _ e).2.2; omega), h.kp.since k (fun j e => by have := (h.far j e).2.2; omega), fun j e => ?_⟩
  rcases hab with h1 | h1 <;> rw [h1] at e
  · exact h.far j e
  · cases e
    have h2 := h.x.lt; have h3 := h.c.lt; have h4 := h.bb.lt
    refine ⟨?_, ?_, ?_⟩ <;> simp <;> omega
/-- A block that was noted. -/
theorem Chs.part {w : World} {g gx : Nat} {W : List UInt8} {R : Nat} {b : List UInt8} {i m : Nat} {M : Option Addr} {cM : Nat} {wr : World} (h : Chs w g gx W R b i m M cM wr) (hb : b.length = 16) (j : Nat) (hj : j < m) :
    ∃ B o, M = some ⟨B, o, none⟩ ∧ wr.rangeAt B (o + j * 16) (bvs (itn W R b j)) := by
  rcases h.o.row with h0 | ⟨B, o, hM, hlt, hc⟩
  · have := congrArg List.length h0
    rw [bvs_length, flat_length W R b hb] at this
    simp at this; omega
  · refine ⟨B, o, hM, fun k v hv => ?_⟩
    have hk : k < 16 := by have := (List.getElem?_eq_some_iff.1 hv).1; rwa [bvs_length, itn_length W R b hb] at this
    have := hc (j * 16 + k) v (by rw [bvs, List.getElem?_map, flat_at W R b hb m j k hj hk, ← List.getElem?_map]; exact hv)
    rw [← Nat.add_assoc] at this
    exact this

theorem range2' {w w2 : World} {a b : List UInt8} {g o h p : Nat} (hr : w.rangeAt g o (bvs a) ∧ w.rangeAt h p (bvs b)) (k : Kp nob w w2) : w2.rangeAt g o (bvs a) ∧ w2.rangeAt h p (bvs b) := ⟨range_keep hr.1 k (fun e => e), range_keep hr.2 k (fun e => e)⟩

set_option maxHeartbeats 4000000 in
set_option maxRecDepth 100000 in
theorem chains_yes (l b : List UInt8) (short : Bool) (n : Nat) (w : World) (ht : Sq w) (hl : l.length = 32) (hb : b.length = 16) (hn : n ≤ 30) :
    Calls Tryd.prog 6 #[.agg (bvs l).toArray, .bool short, .agg (bvs b).toArray, .int .i64 n] w fun e w' => e = .returned (.bool true) ∧ Kp nob w w' := by
  have HT := Lib.hid ht; have HL := Lib.hid hl; have HB := Lib.hid hb
  clear ht hl hb
  obtain ⟨w0, hw0⟩ : ∃ w0, w0 = (w.alloc (.cells (bvs l).toArray 36)).alloc (.cells (bvs b).toArray 23) := ⟨_, rfl⟩
  have hk0 : Kp nob w w0 := by rw [hw0]; exact ((Kp.refl nob w).alloc _).alloc _
  have hbl : Blk w0 w.heap.size 36 (bvs l) := by rw [hw0]; exact (Blk.new w _ _).alloc _
  have hbb : Blk w0 (w.heap.size + 1) 23 (bvs b) := by rw [hw0]; exact Blk.new' (by simp) rfl
  have HK := Lib.hid hk0; have HBL := Lib.hid hbl; have HBB := Lib.hid hbb
  have HW := Lib.hid hw0
  clear hk0 hbl hbb hw0
  go_enter Tryd.func6, Tryd.ntmps6
  go_wp2_with fail
  rw [← HW.out]
  refine (alive_yes _ (HT.out.keep0 HK.out)).mono ?_
  rintro e w1 ⟨rfl, k1⟩
  have HK1 := Lib.hid (HK.out.trans k1 (fun _ e => e.elim)); have HBL1 := Lib.hid (HBL.out.keep k1 (fun e => e)); have HBB1 := Lib.hid (HBB.out.keep k1 (fun e => e))
  clear HK HBL HBB HW k1
  cases short
  case' false =>
    go_wp2_with fail
    refine (new_yes 8 l (some ⟨w.heap.size, 0, none⟩) 32 _ (HT.out.keep0 HK1.out) HL.out (.inr rfl) HBL1.out.row (by omega)).mono ?_
    rintro e w2 ⟨g, rfl, hc, hg, k2⟩
    obtain ⟨W, hW⟩ : ∃ W, W = allW l := ⟨_, rfl⟩
    obtain ⟨R, hR⟩ : ∃ R, R = 8 + 5 := ⟨_, rfl⟩
    rw [← hW, ← hR] at hc
  case' true =>
    go_wp2_with fail
    refine (new_yes 4 (l.take 16) (some ⟨w.heap.size, 0, none⟩) 32 _ (HT.out.keep0 HK1.out) (by rw [List.length_take, HL.out]; rfl) (.inl rfl) (row_take HBL1.out.row 16) (by omega)).mono ?_
    rintro e w2 ⟨g, rfl, hc, hg, k2⟩
    obtain ⟨W, hW⟩ : ∃ W, W = allW (l.take 16) := ⟨_, rfl⟩
    obtain ⟨R, hR⟩ : ∃ R, R = 4 + 5 := ⟨_, rfl⟩
    rw [← hW, ← hR] at hc
  all_goals
    have HC2 := Lib.hid hc
    have HK2 := Lib.hid (HK1.out.trans k2 (fun _ e => e.elim)); have HBB2 := Lib.hid (HBB1.out.keep k2 (fun e => e))
    have HG := Lib.hid (show w.heap.size + 1 < g by have := HBB1.out.lt; omega)
    clear hc hg k2 hW hR HK1 HBL1 HBB1
    obtain ⟨gx, hgx⟩ : ∃ gx, gx = w2.heap.size := ⟨_, rfl⟩
    have hbl : b.length = 16 := HB.out
    go_wp2_with (first
      | (refine wpList_load_blk rfl 23 (.tmp 6) rfl _ _ _ HBB2.out rfl _ arr16 rfl (by rw [blen HB.out]; kernel_rfl) ?_)
      | (refine wpList_store_new rfl 30 (.tmp 12) (.tmp 32) rfl _ (bvs b) rfl rfl (by rw [blen HB.out]; rfl) (bsize HB.out) (bvs_one _) ?_
         intro w3 hB3 k3 z3
         have HX3 := Lib.hid (show Blk w3 gx 30 (bvs b) by rw [hgx]; exact hB3)
         have HC3 := Lib.hid (HC2.out.keep0 k3); have HBB3 := Lib.hid (HBB2.out.keep k3 (fun e => e)); have HK3 := Lib.hid (HK2.out.trans k3 (fun _ e => e.elim))
         have HGX := Lib.hid (show gx ≠ g ∧ w.heap.size + 1 < gx by have := HC2.out.lt; have := HBB2.out.lt; omega)
         clear hB3 k3 z3
         try rw [← hgx])
      | (refine wpList_load_blk rfl 30 (.tmp 12) rfl _ _ _ HX3.out rfl _ arrB rfl (bsize HB.out) ?_))
    rw [← hgx, fold_all (bvs b) _ (by rw [blen HB.out]; rfl)]
    have hs0 : Chs w g gx W R b 0 1 (some ⟨w3.heap.size, 0, none⟩) 1 (w3.alloc (.cells (bvs b).toArray 30)) :=
      ⟨by rw [itn_zero]; exact HX3.out.alloc _, by rw [flat_one]; exact ownK_new w3 16 1 _ _ (blen HB.out) (by simp [maxLen]), HC3.out.keep0 ((Kp.refl nob w3).alloc _), HBB3.out.alloc _, HK3.out.alloc _, fun k e => by
        cases e; have := HX3.out.lt; have := HC3.out.lt; have := HGX.out; refine ⟨?_, ?_, ?_⟩ <;> simp only <;> omega⟩
    have HS0 := Lib.hid hs0
    clear hs0 HX3 HC3 HBB3 HK3 hgx HC2 HK2 HBB2 hbl
    go_loopw [13, 14] (fun vm vi wr => ∃ (i : Nat) (M : Option Addr) (cM : Nat), i ≤ n ∧ vm = .slice M (i + 1) cM ∧ vi = .int .i64 i ∧ Chs w g gx W R b i (i + 1) M cM wr)
      (fun _ vi _ => n - (intOf vi).toNat)
  all_goals first
    | exact ⟨0, _, _, Nat.zero_le _, rfl, rfl, HS0.out⟩
    | skip
  all_goals
    obtain ⟨i, M, cM, hi, rfl, rfl, hs⟩ := hrel
    have HS := Lib.hid hs
    clear hs HS0
    have HIL := Lib.hid (fun j => itn_length W R b HB.out j)
    by_cases hlt : i < n
    case' pos =>
      go_wp2_with (refine wpList_load_blk rfl 30 (.tmp 12) rfl _ _ _ HS.out.x rfl _ arrB rfl (bsize (HIL.out i)) ?_)
      refine (seal_any (itn W R b i) W g R _ (HIL.out i) HS.out.c).mono ?_
      rintro e w4 ⟨rfl, k4⟩
      rw [← itn_succ]
      have HS1 := Lib.hid (HS.out.keep k4)
      clear HS k4
      have hbl : (itn W R b (i + 1)).length = 16 := HIL.out _
      obtain ⟨i0, hi0, hz0, hz1, hz2⟩ := info_parts1 B_info
      obtain ⟨E, hE⟩ : ∃ E, E = itn W R b (i + 1) := ⟨_, rfl⟩
      rw [← hE] at hbl ⊢
      have HE := Lib.hid hE; clear hE
      go_wp2_with (first
        | (refine wpList_store_blk rfl 30 (.tmp 12) (.tmp 42) rfl _ _ (bvs (itn W R b i)) (bvs E) HS1.out.x rfl rfl (by rw [blen (HIL.out i), blen hbl]) (bsize hbl) (bvs_one _) ?_
           intro w5 hB5 k5 z5
           have HS2 := Lib.hid (HS1.out.all (j := i + 1) (by rw [← HE.out]; exact hB5) k5 HGX.out.1 HGX.out.2)
           clear hB5 k5 z5 HS1)
        | (refine wpList_load_blk rfl 30 (.tmp 12) rfl _ _ _ (show Blk w5 gx 30 (bvs E) by rw [HE.out]; exact HS2.out.x) rfl _ arrB rfl (bsize hbl) ?_)
        | (at_builtin
           rw [fold_all (bvs E) _ (by rw [blen hbl]; rfl)]
           refine wpList_appK _ rfl (.tmp 43) (.tmp 45) 39 rfl 16 (by decide) 30 i0 _ 16 Bs_under hi0 hz0 hz1 hz2 rfl M (i + 1) cM (bvs (flat W R b (i + 1))) rfl (HS2.out.o.alloc _) ⟨w5.heap.size, 0, none⟩ 1 1 (bvs E) rfl (blen hbl) (row_new w5 (bvs E) _) (bvs_one _) (by omega) (by omega) ?_
           intro M2 c2 w6 ho6 hg6 hab6))
      have HS3 := Lib.hid (HS2.out.grow (by rw [← HE.out]; exact ho6) hg6 hab6)
      clear ho6 hg6 hab6 HS2
      go_wp2
      exact ⟨⟨i + 1, M2, c2, by omega, rfl, by go_num, HS3.out⟩, by simp [intOf]; omega⟩
    case' neg =>
      obtain rfl : i = n := by omega
      go_wp2
      go_loopw [15] (fun vi wx => ∃ j : Nat, j ≤ i ∧ vi = .int .i64 j ∧ Chs w g gx W R b j (i + 1) M cM wx)
        (fun vi _ => (intOf vi).toNat)
  all_goals first
    | exact ⟨i, Nat.le_refl _, rfl, HS.out⟩
    | skip
  all_goals
    obtain ⟨j, hj, rfl, hs⟩ := hrel
    have HSJ := Lib.hid hs
    clear hs HS
    cases j with
    | zero =>
      have hx0 := HSJ.out.x
      rw [itn_zero] at hx0
      have HX0 := Lib.hid hx0; clear hx0
      have q3 := fun w => eqB_same b HB.out w
      go_wp2_with (first
        | (refine wpList_load_gd 30 (.tmp 12) rfl rfl _ _ _ HX0.out rfl _ arrB rfl (bsize HB.out) ?_)
        | (refine wpList_load_gd 23 (.tmp 6) rfl rfl _ _ _ HSJ.out.bb rfl _ arr16 rfl (by rw [blen HB.out]; kernel_rfl) ?_))
      go_ret
      exact ⟨rfl, HSJ.out.kp⟩
    | succ j =>
      have hw : ((j + 1 : Nat) : Int) = (j : Int) + 1 := by omega
      have b1 : (0 : Int) ≤ (j : Int) + 1 ∧ (j : Int) + 1 < ((i + 1 : Nat) : Int) := by omega
      have b2 : (0 : Int) ≤ (j : Int) + 1 ∧ (j : Int) + 1 < (i : Int) + 1 := by omega
      have u1 : IntKind.i64.wrap ((j : Int) + 1 - 1) = (j : Int) := wrap_to _ _ (by omega) (by omega)
      obtain ⟨E, hE⟩ : ∃ E, E = itn W R b (j + 1) := ⟨_, rfl⟩
      have HEL := Lib.hid (show E.length = 16 by rw [hE]; exact HIL.out _)
      have q3 := fun w => eqB_same E HEL.out w
      obtain ⟨B, o, rfl, hpr⟩ := HSJ.out.part HB.out (j + 1) (by omega)
      rw [← hE] at hpr
      have HEX := Lib.hid (show Blk wr gx 30 (bvs E) by rw [hE]; exact HSJ.out.x)
      have HDE := Lib.hid (show dec W R E = itn W R b j by rw [hE]; exact dec_itn W R b HB.out j)
      have HPR := Lib.hid hpr
      clear hE hpr
      go_wp2
      have HD := Lib.hid (Kp.refl nob wr).drew
      have HSR := Lib.hid (range2' (show wr.rangeAt gx 0 (bvs E) ∧ wr.rangeAt B (o + (j + 1) * 16) (bvs E) from ⟨HEX.out.range, HPR.out⟩) HD.out)
      have HEX2 := Lib.hid (HEX.out.keep HD.out (fun e => e)); have HSJ2 := Lib.hid (HSJ.out.keep HD.out)
      clear HEX HPR HSJ HD
      refine reg_begin (fun w' => w'.rangeAt gx 0 (bvs E) ∧ w'.rangeAt B (o + (j + 1) * 16) (bvs E)) (by kernel_rfl) HSR.out (fun _ => ?_)
      generalize wr.drew = wd at *
      refine reg_load 0 (some 52) 30 (.tmp 12) rfl rfl rfl (by kernel_rfl) (by kernel_rfl) (by kernel_rfl) (by rfl) HSR.out (gx) 0 rfl (bvs E) _ (fun _ x => x.1) arrB rfl (bsize HEL.out) ?_
      simp only [Act.put, List.setIfInBounds_toArray, List.set_cons_zero, List.set_cons_succ]
      refine reg_take (v := .slice (some ⟨B, o, none⟩) (i + 1) cM) 1 (some 53) rfl rfl (by kernel_rfl) (by kernel_rfl) (by kernel_rfl) (by rfl) HSR.out (fun w hw => by go_simp) ?_
      simp only [Act.put, List.setIfInBounds_toArray, List.set_cons_zero, List.set_cons_succ]
      refine reg_take (v := .int .i64 ((j : Int) + 1)) 2 (some 54) rfl rfl (by kernel_rfl) (by kernel_rfl) (by kernel_rfl) (by rfl) HSR.out (fun w hw => by go_simp) ?_
      simp only [Act.put, List.setIfInBounds_toArray, List.set_cons_zero, List.set_cons_succ]
      refine reg_take (v := .pointer (some ⟨B, o + (j + 1) * 16, none⟩)) 3 (some 55) rfl rfl (by kernel_rfl) (by kernel_rfl) (by kernel_rfl) (by rfl) HSR.out (fun w hw => by go_simp) ?_
      simp only [Act.put, List.setIfInBounds_toArray, List.set_cons_zero, List.set_cons_succ]
      refine reg_load 4 (some 56) 30 (.tmp 55) rfl rfl rfl (by kernel_rfl) (by kernel_rfl) (by kernel_rfl) (by rfl) HSR.out B (o + (j + 1) * 16) rfl (bvs E) _ (fun _ x => x.2) arrB rfl (bsize HEL.out) ?_
      simp only [Act.put, List.setIfInBounds_toArray, List.set_cons_zero, List.set_cons_succ]
      refine reg_take (v := .bool false) 5 (some 57) rfl rfl (by kernel_rfl) (by kernel_rfl) (by kernel_rfl) (by rfl) HSR.out (fun w hw => by go_simp) ?_
      simp only [Act.put, List.setIfInBounds_toArray, List.set_cons_zero, List.set_cons_succ]
      refine reg_end (by kernel_rfl) ?_
      clear HSR
      go_wp2_with (refine wpList_load_blk rfl 30 (.tmp 12) rfl _ _ _ HEX2.out rfl _ arrB rfl (bsize HEL.out) ?_)
      refine (open_any E W g R _ HEL.out HSJ2.out.c).mono ?_
      rintro e w4 ⟨rfl, k4⟩
      rw [HDE.out]
      have HEX3 := Lib.hid (HEX2.out.keep k4 (fun e => e)); have HSJ3 := Lib.hid (HSJ2.out.keep k4)
      clear k4 HEX2 HSJ2 q3
      go_wp2_with (refine wpList_store_blk rfl 30 (.tmp 12) (.tmp 60) rfl _ _ (bvs E) (bvs (itn W R b j)) HEX3.out rfl rfl (by rw [blen HEL.out, blen (HIL.out j)]) (bsize (HIL.out j)) (bvs_one _) ?_; intro w5 hB5 k5 z5)
      have HS5 := Lib.hid (HSJ3.out.all hB5 k5 HGX.out.1 HGX.out.2)
      clear hB5 k5 z5 HSJ3 HEX3
      go_wp2
      exact ⟨⟨j, by omega, rfl, HS5.out⟩, by simp [intOf]⟩
theorem chains_no (l b : List UInt8) (short : Bool) (n : Int) (w : World) (ht : Sq w) (hn : n < 0 ∨ 30 < n) :
    Calls Tryd.prog 6 #[.agg (bvs l).toArray, .bool short, .agg (bvs b).toArray, .int .i64 n] w fun e w' => e = .returned (.bool true) ∧ Kp nob w w' := by
  have HK := Lib.hid (show Kp nob w ((w.alloc (.cells (bvs l).toArray 36)).alloc (.cells (bvs b).toArray 23)) from ((Kp.refl nob w).alloc _).alloc _)
  go_enter Tryd.func6, Tryd.ntmps6
  go_wp2_with fail
  refine (alive_yes _ (ht.keep0 HK.out)).mono ?_
  rintro e w1 ⟨rfl, k1⟩
  rcases hn with hn | hn
  · have d0 : decide (n < 0) = true := by simpa using hn
    go_wp2
    go_ret
    exact ⟨rfl, HK.out.trans k1 (fun _ e => e.elim)⟩
  · have d0 : decide (n < 0) = false := by simp; omega
    have d1 : decide (30 < n) = true := by simpa using hn
    go_wp2
    go_ret
    exact ⟨rfl, HK.out.trans k1 (fun _ e => e.elim)⟩
theorem chains_walk (l : List UInt8) (short : Bool) (b : List UInt8) (n : Int) (w : World) (ht : Sq w) (hl : l.length = 32) (hb : b.length = 16) (_h : (Lit.int .i64 n).wf = true) :
    Calls Tryd.prog 6 #[.agg (bvs l).toArray, .bool short, .agg (bvs b).toArray, .int .i64 n] w fun e w' => e = .returned (.bool true) ∧ Kp nob w w' := by
  by_cases hn : n < 0 ∨ 30 < n
  · exact chains_no l b short n w ht hn
  · obtain ⟨m, rfl⟩ := Int.eq_ofNat_of_zero_le (a := n) (by omega)
    exact chains_yes l b short m w ht hl hb (by omega)
end Go.Proofs.YtdoioldlaehkhaaDoor.Aes
