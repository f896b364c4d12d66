/- Lemmas: DiskR DiskT DiskL RegM DiskN. -/
import Derived.Test.YtndkmfflpphoiaaZG05
import Derived.Deep.Cut
import Derived.Deep.CutRange
set_option linter.unusedVariables false
set_option linter.unusedSimpArgs false
namespace Go.Proofs.Ytndkmfflpphoiaa.Disk
open Go Go.RowKit Kit
theorem str_append2 (l m : List UInt8) : str l ++ str m = str (l ++ m) := by
  apply ByteArray.ext; simp [str]
def sv (l : List UInt8) : Value := .string (str l)
def svs (ls : List (List UInt8)) : List Value := ls.map sv
theorem svs_length (ls : List (List UInt8)) : (svs ls).length = ls.length := by simp [svs]
theorem svs_at (ls : List (List UInt8)) (i : Nat) (h : i < ls.length) : (svs ls)[i]? = some (.string (str ls[i])) := by simp [svs, sv, h]
theorem svs_set (ls : List (List UInt8)) (i : Nat) (l : List UInt8) : (svs ls).set i (.string (str l)) = svs (ls.set i l) := by
  simp [svs, List.map_set, sv]
theorem svs_one (ls : List (List UInt8)) : ∀ u ∈ svs ls, u.oneCell' = true := by
  intro u hu
  simp only [svs, List.mem_map] at hu
  obtain ⟨x, _, rfl⟩ := hu; rfl
def wc (x : Nat × List UInt8) : List Value := [.int .i64 (x.1 : Int), .string (str x.2)]
def wcs (xs : List (Nat × List UInt8)) : List Value := xs.flatMap wc
/-- The document's disk at g, with all that it has. -/
structure Dd (w : World) (g : Nat) (F : Nat → Prop) (N S W : Option Addr) (cN cS cW : Nat) (D : Dk) : Prop where
  b : Blk w g 50 [.slice N D.now.length cN, .slice S D.safe.length cS, .slice W D.waits.length cW, .bool D.off, .int .i64 (D.acts : Int), .int .i64 (D.fuse : Int), .int .u64 (D.keep : Int)]
  now : Row w N (svs D.now)
  safe : Row w S (svs D.safe)
  waits : Row w W (wcs D.waits)
  caps : D.now.length ≤ cN ∧ D.safe.length ≤ cS ∧ D.waits.length ≤ cW
  fn : ∀ k, ab N = some k → F k ∧ k ≠ g
  fs : ∀ k, ab S = some k → F k ∧ k ≠ g
  fw : ∀ k, ab W = some k → F k ∧ k ≠ g
  g : F g
  lt : ∀ k, F k → k < w.heap.size
theorem Dd.keep {w w2 : World} {g : Nat} {F G : Nat → Prop} {N S W : Option Addr} {cN cS cW : Nat} {D : Dk} (h : Dd w g F N S W cN cS cW D) (k : Kp G w w2) (hF : ∀ i, F i → ¬ G i) : Dd w2 g F N S W cN cS cW D :=
  ⟨h.b.keep k (hF _ h.g), h.now.keep k (fun j e => hF j (h.fn j e).1), h.safe.keep k (fun j e => hF j (h.fs j e).1), h.waits.keep k (fun j e => hF j (h.fw j e).1), h.caps, h.fn, h.fs, h.fw, h.g, fun j e => Nat.lt_of_lt_of_le (h.lt j e) k.size⟩
theorem Dd.keep0 {w w2 : World} {g : Nat} {F : Nat → Prop} {N S W : Option Addr} {cN cS cW : Nat} {D : Dk} (h : Dd w g F N S W cN cS cW D) (k : Kp nob w w2) : Dd w2 g F N S W cN cS cW D := h.keep k (fun _ _ e => e)
theorem made_zero (n : Nat) : madeCells #[(.int .u8 0 : Value)] n = (bvs (List.replicate n 0)).toArray := by
  apply Array.ext
  · simp [size_madeCells, bvs]
  · intro i h1 h2
    simp [madeCells, bvs, bv, Nat.mod_one]
theorem u8_info1 : (Try.prog.info? 5).map (fun i => (i.zero, i.size, i.bytes)) = some (some (.int .u8 0), 1, 1) := by kernel_rfl
theorem make_any (n : Nat) (hn : n ≤ 256) (w : World) : (Instr.makeSlice 36 (.int .i64 (n : Int)) (.int .i64 (n : Int))).run Try.prog w = .ok (.slice (some ⟨w.heap.size, 0, none⟩) n n) (w.alloc (.cells (bvs (List.replicate n 0)).toArray 5)) := by
  rw [← made_zero]
  exact run_make_row' 36 5 (.int .u8 0) 1 u8_under u8_info1 rfl .i64 .i64 n (by omega) (by omega) w
set_option maxHeartbeats 1000000 in
theorem fFull (l : List UInt8) (w : World) (hl : l.length ≤ 256) :
    Calls Try.prog 51 #[.string (str l)] w fun e w' => e = .returned (.string (str (full l))) ∧ Kp nob w w' := by
  obtain ⟨n, hn⟩ : ∃ n, n = 256 - l.length := ⟨_, rfl⟩
  have e1 : IntKind.i64.wrap (256 - (l.length : Int)) = (n : Int) := by rw [IntWalk.i64_in _ (by omega)]; omega
  have HF := Lib.hid (show str l ++ str (List.replicate n 0) = str (full l) by rw [str_append2, full, hn])
  have hm := make_any n (by omega)
  have hs := str_size l
  have hc := fun w1 : World => conv_row (w1.alloc (.cells (bvs (List.replicate n 0)).toArray 5)) (some ⟨w1.heap.size, 0, none⟩) n n (List.replicate n 0) (by simp) (row_new w1 _ _)
  have hz : (str l).size + (str (List.replicate n 0)).size ≤ 9223372036854775807 := by rw [str_size, str_size, List.length_replicate]; omega
  clear hn hl
  go_enter Try.func51, Try.ntmps51
  go_wp2
  go_ret
  rw [← HF.out]
  exact ⟨rfl, (Kp.refl nob w).alloc _⟩
theorem str_under : Try.prog.underlying 47 = some (.slice 9) := by kernel_rfl
theorem str_info : (Try.prog.info? 9).map (fun i => (i.zero, i.size, i.bytes)) = some (some (.string ⟨#[]⟩), 1, 16) := by kernel_rfl
set_option maxHeartbeats 1000000 in
theorem fput (ls : List (List UInt8)) (A : Option Addr) (n c i : Nat) (s : List UInt8) (w : World) (hr : Row w A (svs ls)) (hn : ls.length = n) (hi : i < n) (hn2 : n ≤ 100000) :
    Calls Try.prog 47 #[.slice A n c, .int .i64 i, .string (str s)] w fun e w' => ∃ A' c', e = .returned (.slice A' n c') ∧ Row w' A' (svs (ls.set i s)) ∧ n ≤ c' ∧ (∀ k, ab A' = some k → w.heap.size ≤ k ∧ k < w'.heap.size) ∧ Kp nob w w' := by
  obtain ⟨i0, h0, hz0, hz1, hz2⟩ := info_parts3 str_info
  have hA : A = none → c = 0 := fun e => by
    exfalso
    subst e
    rcases hr with h | ⟨b, o, h, _⟩
    · have := congrArg List.length h; rw [svs_length, hn] at this; simp only [List.length_nil] at this; omega
    · cases h
  have ho : Own 9 (w.alloc (.cells #[] 9)) (some ⟨w.heap.size, 0, none⟩) 0 0 [] := World.ownsRow_made w #[] 0 (Nat.zero_le _) (by simp [maxLen]) rfl
  have hr1 := hr.alloc (.cells #[] 9)
  have HN := Lib.hid hn; have HI := Lib.hid hi
  go_enter Try.func47, Try.ntmps47
  go_wp2_with (at_builtin; refine wpList_appR _ rfl (.tmp 8) (.tmp 9) 47 rfl 9 i0 (.string ⟨#[]⟩) 16 str_under h0 hz0 hz1 hz2 rfl _ 0 0 [] rfl ho A n c (svs ls) rfl hA (by simp [svs_length, hn]) hr1 (svs_one ls) (by omega) (by omega) ?_)
  intro M cM w2 hM hgM habM
  have s2 : Kp nob w w2 := ((Kp.refl nob w).alloc (.cells #[] 9)).grown hgM (fun k e => .inr (by cases e; exact Nat.le_refl _))
  have nM : ∀ k, ab M = some k → w.heap.size ≤ k := by
    intro k e
    rcases habM with h | h <;> rw [h] at e <;> cases e
    · exact Nat.le_refl _
    · exact Nat.le_succ _
  obtain ⟨bm, rfl, hbm, hcm, hfm, hsm⟩ := hM.at_ (i := i) (by omega)
  have hcm' : w2.cell? ⟨bm, i, none⟩ = some (.string (str (ls[i]'(by omega)))) := by rw [hcm]; simp [svs, sv]
  have HM := Lib.hid hM; have HS := Lib.hid s2; have NM := Lib.hid nM
  clear hcm ho hr1 hgM habM hM s2 nM hr h0 hz0 hz1 hz2
  go_wp2
  go_ret
  refine ⟨_, _, rfl, ?_, ?_, fun k e => ⟨NM.out k e, by have := HM.out.lt k e; simpa using this⟩, HS.out.setCell (p := ⟨bm, i, none⟩) (.inr (NM.out bm rfl)) _⟩
  · have := (HM.out.set i (.string (str s))).row
    rw [svs_set] at this
    exact this
  · have := HM.out.cap.1; omega
theorem Dd.cells {w : World} {g : Nat} {F : Nat → Prop} {N S W : Option Addr} {cN cS cW : Nat} {D : Dk} (h : Dd w g F N S W cN cS cW D) :
    w.cell? ⟨g, 0, none⟩ = some (.slice N D.now.length cN) ∧ w.cell? ⟨g, 1, none⟩ = some (.slice S D.safe.length cS) ∧ w.cell? ⟨g, 2, none⟩ = some (.slice W D.waits.length cW) ∧ w.cell? ⟨g, 3, none⟩ = some (.bool D.off) ∧ w.cell? ⟨g, 4, none⟩ = some (.int .i64 (D.acts : Int)) ∧ w.cell? ⟨g, 5, none⟩ = some (.int .i64 (D.fuse : Int)) ∧ w.cell? ⟨g, 6, none⟩ = some (.int .u64 (D.keep : Int)) :=
  ⟨h.b.cell 0, h.b.cell 1, h.b.cell 2, h.b.cell 3, h.b.cell 4, h.b.cell 5, h.b.cell 6⟩
/-- What stands where the disk's own cells alone are turned. -/
theorem Dd.own {w w2 : World} {g : Nat} {F : Nat → Prop} {N S W : Option Addr} {cN cS cW : Nat} {D D2 : Dk} (h : Dd w g F N S W cN cS cW D) (k : Kp (oneB g) w w2) (hn : D2.now = D.now) (hs : D2.safe = D.safe) (hw : D2.waits = D.waits)
    (hb : Blk w2 g 50 [.slice N D.now.length cN, .slice S D.safe.length cS, .slice W D.waits.length cW, .bool D2.off, .int .i64 (D2.acts : Int), .int .i64 (D2.fuse : Int), .int .u64 (D2.keep : Int)]) : Dd w2 g F N S W cN cS cW D2 :=
  ⟨by rw [hn, hs, hw]; exact hb, by rw [hn]; exact h.now.keep k (fun j e e2 => (h.fn j e).2 e2), by rw [hs]; exact h.safe.keep k (fun j e e2 => (h.fs j e).2 e2), by rw [hw]; exact h.waits.keep k (fun j e e2 => (h.fw j e).2 e2), by rw [hn, hs, hw]; exact h.caps, h.fn, h.fs, h.fw, h.g, fun j e => Nat.lt_of_lt_of_le (h.lt j e) k.size⟩
set_option maxHeartbeats 1000000 in
theorem fmay (D : Dk) (i : Int) (g : Nat) (F : Nat → Prop) (N S W : Option Addr) (cN cS cW : Nat) (w : World) (h : Dd w g F N S W cN cS cW D) :
    Calls Try.prog 55 #[.pointer (some ⟨g, 0, none⟩), .int .i64 i] w fun e w' => e = .returned (.int .i64 (may E8 D i)) ∧ w = w' := by
  obtain ⟨c0, c1, c2, c3, c4, c5, c6⟩ := h.cells
  clear c1 c2 c4 c5 c6 h
  cases ho : D.off with
  | true =>
    rw [ho] at c3
    have HM := Lib.hid (show may E8 D i = 8 by rw [may, if_pos ho]; rfl)
    clear ho
    go_enter Try.func55, Try.ntmps55
    go_wp2
    go_ret
    rw [HM.out]; exact ⟨rfl, rfl⟩
  | false =>
    rw [ho] at c3
    by_cases h1 : i < 0
    · have HM := Lib.hid (show may E8 D i = 1 by rw [may, if_neg (by rw [ho]; decide), if_pos (.inl h1)]; rfl)
      clear ho
      go_enter Try.func55, Try.ntmps55
      go_wp2
      go_ret
      rw [HM.out]; exact ⟨rfl, rfl⟩
    · by_cases h2 : (D.now.length : Int) ≤ i
      · have HM := Lib.hid (show may E8 D i = 1 by rw [may, if_neg (by rw [ho]; decide), if_pos (.inr h2)]; rfl)
        clear ho
        go_enter Try.func55, Try.ntmps55
        go_wp2
        go_ret
        rw [HM.out]; exact ⟨rfl, rfl⟩
      · have HM := Lib.hid (show may E8 D i = 0 by rw [may, if_neg (by rw [ho]; decide), if_neg (by omega)]; rfl)
        clear ho
        go_enter Try.func55, Try.ntmps55
        go_wp2
        go_ret
        rw [HM.out]; exact ⟨rfl, rfl⟩
set_option maxHeartbeats 1000000 in
theorem fAct (D : Dk) (g : Nat) (F : Nat → Prop) (N S W : Option Addr) (cN cS cW : Nat) (w : World) (h : Dd w g F N S W cN cS cW D) (ha : D.acts ≤ 1000000000) (hf : D.fuse ≤ 9223372036854775807) :
    Calls Try.prog 46 #[.pointer (some ⟨g, 0, none⟩)] w fun e w' => e = .returned (.bool (act D).2) ∧ Dd w' g F N S W cN cS cW (act D).1 ∧ Kp (oneB g) w w' := by
  obtain ⟨c0, c1, c2, c3, c4, c5, c6⟩ := h.cells
  have f4 : w.frozen? ⟨g, 4, none⟩ = false := h.b.frozen _
  have f5 : w.frozen? ⟨g, 5, none⟩ = false := h.b.frozen _
  have HD := Lib.hid h
  clear c0 c1 c2 c6 h
  cases ho : D.off with
  | true =>
    rw [ho] at c3
    have HA := Lib.hid (act_off D ho)
    clear ho
    go_enter Try.func46, Try.ntmps46
    go_wp2
    go_ret
    rw [HA.out]; exact ⟨rfl, HD.out, Kp.refl _ _⟩
  | false =>
    rw [ho] at c3
    have HA := Lib.hid (act_on D ho)
    obtain ⟨a1, ha1⟩ : ∃ a, a = D.acts + 1 := ⟨_, rfl⟩
    have e1 : IntKind.i64.wrap ((D.acts : Int) + 1) = (a1 : Int) := by rw [IntWalk.i64_in _ (by omega)]; omega
    have HA1 := Lib.hid ha1
    have K := Lib.hid (((Kp.refl (oneB g) w).setCell (p := ⟨g, 4, none⟩) (.inl rfl) (.int .i64 (a1 : Int))))
    have HB1 := Lib.hid (HD.out.b.set_ 4 (.int .i64 (a1 : Int)))
    by_cases h0 : D.fuse = 0
    · have HR := Lib.hid (show (act D).1 = { D with acts := a1, fuse := 0 } ∧ (act D).2 = false by rw [HA.out, h0, ha1]; exact ⟨rfl, rfl⟩)
      rw [h0] at c5
      have HO := Lib.hid ho; have H0 := Lib.hid h0
      clear ho ha1 ha h0 hf
      go_enter Try.func46, Try.ntmps46
      go_wp2
      go_ret
      rw [HR.out.1, HR.out.2]
      refine ⟨rfl, HD.out.own K.out rfl rfl rfl ?_, K.out⟩
      have := HB1.out
      rw [H0.out] at this
      exact this
    · obtain ⟨f1, hf1⟩ : ∃ f, f = D.fuse - 1 := ⟨_, rfl⟩
      have e2 : IntKind.i64.wrap ((D.fuse : Int) - 1) = (f1 : Int) := by rw [IntWalk.i64_in _ (by omega)]; omega
      have HR := Lib.hid (show (act D).1 = { D with acts := a1, fuse := f1 } ∧ (act D).2 = decide (f1 = 0) by rw [HA.out, ha1, hf1]; exact ⟨rfl, by simp only; congr 1; rw [eq_iff_iff]; omega⟩)
      have h0' : ((D.fuse : Int) == 0) = false := beq_eq_false_iff_ne.2 (by omega)
      have HZ := Lib.hid (show ((f1 : Int) == 0) = decide (f1 = 0) by rw [Bool.eq_iff_iff, beq_iff_eq, decide_eq_true_iff]; omega)
      have K2 := Lib.hid (K.out.setCell (p := ⟨g, 5, none⟩) (.inl rfl) (.int .i64 (f1 : Int)))
      have HB2 := Lib.hid (HB1.out.set_ 5 (.int .i64 (f1 : Int)))
      have HO := Lib.hid ho
      clear ho ha1 ha h0 hf hf1
      go_enter Try.func46, Try.ntmps46
      go_wp2
      go_ret
      rw [HR.out.1, HR.out.2, ← HZ.out]
      exact ⟨rfl, HD.out.own K2.out rfl rfl rfl HB2.out, K2.out⟩
set_option maxHeartbeats 1000000 in
theorem fArm (D : Dk) (n : Int) (keep : Nat) (g : Nat) (F : Nat → Prop) (N S W : Option Addr) (cN cS cW : Nat) (w : World) (h : Dd w g F N S W cN cS cW D) :
    Calls Try.prog 25 #[.pointer (some ⟨g, 0, none⟩), .int .i64 n, .int .u64 (keep : Int)] w fun e w' => e = .returned (.tuple #[]) ∧ Dd w' g F N S W cN cS cW (arm D n keep) ∧ Kp (oneB g) w w' := by
  obtain ⟨c0, c1, c2, c3, c4, c5, c6⟩ := h.cells
  have f5 : w.frozen? ⟨g, 5, none⟩ = false := h.b.frozen _
  have f6 : w.frozen? ⟨g, 6, none⟩ = false := h.b.frozen _
  have HD := Lib.hid h
  have K1 := Lib.hid ((Kp.refl (oneB g) w).setCell (p := ⟨g, 5, none⟩) (.inl rfl) (.int .i64 0))
  have HB1 := Lib.hid (HD.out.b.set_ 5 (.int .i64 0))
  clear h c0 c1 c2 c3 c4
  by_cases hn : 0 < n
  · have HN := Lib.hid (show ((n.toNat : Nat) : Int) = n by omega)
    go_enter Try.func25, Try.ntmps25
    go_wp2
    have K2 := (K1.out.setCell (p := ⟨g, 5, none⟩) (.inl rfl) (.int .i64 n)).setCell (p := ⟨g, 6, none⟩) (.inl rfl) (.int .u64 (keep : Int))
    have HB2 := (HB1.out.set_ 5 (.int .i64 n)).set_ 6 (.int .u64 (keep : Int))
    refine bodyPost_end (results_none rfl _ _ _) rfl ⟨rfl, HD.out.own K2 rfl rfl rfl ?_, K2⟩
    show Blk _ _ _ [.slice N D.now.length cN, .slice S D.safe.length cS, .slice W D.waits.length cW, .bool D.off, .int .i64 (D.acts : Int), .int .i64 ((n.toNat : Nat) : Int), .int .u64 (keep : Int)]
    rw [HN.out]
    exact HB2
  · have HN := Lib.hid (show ((n.toNat : Nat) : Int) = 0 by omega)
    go_enter Try.func25, Try.ntmps25
    go_wp2
    have K2 := K1.out.setCell (p := ⟨g, 6, none⟩) (.inl rfl) (.int .u64 (keep : Int))
    have HB2 := HB1.out.set_ 6 (.int .u64 (keep : Int))
    refine bodyPost_end (results_none rfl _ _ _) rfl ⟨rfl, HD.out.own K2 rfl rfl rfl ?_, K2⟩
    show Blk _ _ _ [.slice N D.now.length cN, .slice S D.safe.length cS, .slice W D.waits.length cW, .bool D.off, .int .i64 (D.acts : Int), .int .i64 ((n.toNat : Nat) : Int), .int .u64 (keep : Int)]
    rw [HN.out]
    exact HB2
theorem wc_length (x : Nat × List UInt8) : (wc x).length = 2 := rfl
theorem wcs_length (xs : List (Nat × List UInt8)) : (wcs xs).length = xs.length * 2 := by
  induction xs with
  | nil => rfl
  | cons t ts ih => rw [wcs, List.flatMap_cons, List.length_append, wc_length, ← wcs, ih, List.length_cons]; omega
theorem wcs_at (ts : List (Nat × List UInt8)) (i k : Nat) (t : Nat × List UInt8) (h : ts[i]? = some t) (hk : k < 2) : (wcs ts)[i * 2 + k]? = (wc t)[k]? := by
  induction ts generalizing i with
  | nil => cases h
  | cons a ts ih =>
    rw [wcs, List.flatMap_cons]
    cases i with
    | zero =>
      simp only [List.getElem?_cons_zero, Option.some.injEq] at h
      subst h
      rw [List.getElem?_append_left (by rw [wc_length]; omega)]; congr 1; omega
    | succ i =>
      rw [List.getElem?_append_right (by rw [wc_length]; omega), wc_length]
      rw [List.getElem?_cons_succ] at h
      rw [show (i + 1) * 2 + k - 2 = i * 2 + k by omega]
      exact ih i h
theorem wcs_row {w : World} {A : Option Addr} {xs : List (Nat × List UInt8)} (h : Row w A (wcs xs)) (i : Nat) (x : Nat × List UInt8) (hi : xs[i]? = some x) : ∃ B o, A = some ⟨B, o, none⟩ ∧ w.rangeAt B (o + i * 2) (wc x) := by
  have hil := (List.getElem?_eq_some_iff.1 hi).1
  rcases h with h0 | ⟨B, o, hM, hlt, hc⟩
  · have := congrArg List.length h0
    rw [wcs_length] at this
    simp at this; omega
  · refine ⟨B, o, hM, fun k v hv => ?_⟩
    have hk : k < 2 := (List.getElem?_eq_some_iff.1 hv).1
    have := hc (i * 2 + k) v (by rw [wcs_at xs i k x hi hk]; exact hv)
    rw [← Nat.add_assoc] at this
    exact this
theorem wU : Try.prog.underlying 82 = some (.struct (Try.prog.fieldsOf 82)) := by kernel_rfl
theorem wc_one (x : Nat × List UInt8) : ∀ u ∈ wc x, u.oneCell' = true := by
  intro u hu
  simp only [wc, List.mem_cons, List.not_mem_nil, or_false] at hu
  rcases hu with rfl | rfl <;> rfl
/-- The document's disk behind a call: it is D2 now; what else was there is as it was. -/
def Dm (w : World) (g : Nat) (F : Nat → Prop) (D2 : Dk) (w2 : World) : Prop := ∃ (F' : Nat → Prop) (N S W : Option Addr) (cN cS cW : Nat), Dd w2 g F' N S W cN cS cW D2 ∧ (∀ k, F' k → F k ∨ w.heap.size ≤ k) ∧ Kp F w w2
theorem kept_eq (keep i q : Nat) (h : keep / 2 ^ (i % 64) % 2 = q) : kept keep i = decide (q = 1) := by rw [kept, h]
set_option maxHeartbeats 4000000 in
set_option maxRecDepth 100000 in
theorem fLose (D : Dk) (keep : Nat) (g : Nat) (F : Nat → Prop) (N S W : Option Addr) (cN cS cW : Nat) (w : World) (h : Dd w g F N S W cN cS cW D) (ho : Ok D) (hn : D.now.length ≤ 4096) (hw : D.waits.length ≤ 100000) :
    Calls Try.prog 22 #[.pointer (some ⟨g, 0, none⟩), .int .u64 (keep : Int)] w fun e w' => e = .returned (.tuple #[]) ∧ Dm w g F (lose D keep) w' := by
  obtain ⟨c0, c1, c2, c3, c4, c5, c6⟩ := h.cells
  have HD := Lib.hid h
  have HO := Lib.hid ho
  clear c0 c1 c4 c5 c6 h
  cases hf : D.off with
  | true =>
    rw [hf] at c3
    have HR := Lib.hid (lose_off D keep hf)
    clear hf
    go_enter Try.func22, Try.ntmps22
    go_wp2
    refine bodyPost_ret (results_none rfl _ _ _) rfl ⟨rfl, ?_⟩
    rw [HR.out]
    exact ⟨F, N, S, W, cN, cS, cW, HD.out, fun k e => .inl e, Kp.refl _ _⟩
  | false =>
    rw [hf] at c3
    have HR := Lib.hid (lose_on D keep hf)
    have HOFF := Lib.hid hf
    have HLS := Lib.hid (show D.safe.length ≤ 4096 by rw [ho.safe]; exact hn)
    have HB := Lib.hid (show Blk w g 50 [.slice N D.now.length cN, .slice S D.safe.length cS, .slice W D.waits.length cW, .bool false, .int .i64 (D.acts : Int), .int .i64 (D.fuse : Int), .int .u64 (D.keep : Int)] from by have := HD.out.b; rw [hf] at this; exact this)
    clear hf hn
    go_enter Try.func22, Try.ntmps22
    go_wp2
    go_loopw [15] (fun vi wr => ∃ (k : Nat) (S' : Option Addr) (cS' : Nat), k ≤ D.waits.length ∧ vi = .int .i64 k ∧ Blk wr g 50 [.slice N D.now.length cN, .slice S' D.safe.length cS', .slice W D.waits.length cW, .bool false, .int .i64 (D.acts : Int), .int .i64 (D.fuse : Int), .int .u64 (D.keep : Int)] ∧ Row wr S' (svs (over keep 0 (D.waits.take k) D.safe)) ∧ D.safe.length ≤ cS' ∧ (∀ j, ab S' = some j → ((F j ∧ j ≠ g) ∨ w.heap.size ≤ j) ∧ j < wr.heap.size) ∧ Kp (oneB g) w wr)
      (fun vi _ => D.waits.length - (intOf vi).toNat)
    case atStart => exact ⟨0, S, cS, by omega, rfl, HB.out, HD.out.safe, HD.out.caps.2.1, fun j e => ⟨.inl (HD.out.fs j e), HD.out.lt j (HD.out.fs j e).1⟩, Kp.refl _ _⟩
    case round =>
      obtain ⟨k, S', cS', hk, rfl, hb, hr, hc, ha, hkp⟩ := hrel
      have HBr := Lib.hid hb; have HRr := Lib.hid hr; have HC := Lib.hid hc; have HA := Lib.hid ha; have HKP := Lib.hid hkp
      have HG := Lib.hid (show g < w.heap.size from HD.out.lt g HD.out.g)
      clear hb hr hc ha hkp
      by_cases hlt : k < D.waits.length
      · obtain ⟨x, hx⟩ : ∃ x, D.waits[k]? = some x := ⟨_, List.getElem?_eq_getElem hlt⟩
        obtain ⟨B, o, rfl, hrg⟩ := wcs_row (HD.out.waits.keep HKP.out (fun j e e2 => (HD.out.fw j e).2 e2)) k x hx
        have HRG := Lib.hid hrg
        have HNX := Lib.hid (over_next keep D.waits D.safe k x hx)
        have HX1 := Lib.hid (show x.1 < D.safe.length by rw [HO.out.safe]; exact (HO.out.waits x (List.mem_of_getElem? hx)).1)
        obtain ⟨m, hm⟩ : ∃ m, m = k % 64 := ⟨_, rfl⟩
        obtain ⟨q, hq⟩ : ∃ q, keep / 2 ^ (k % 64) % 2 = q := ⟨_, rfl⟩
        have HQ := Lib.hid (kept_eq keep k q hq)
        have e1 : (k : Int).tmod 64 = (m : Int) := by rw [Int.tmod_eq_emod_of_nonneg (by omega)]; omega
        have e2 : IntKind.u64.wrap (m : Int) = (m : Int) := by rw [IntKind.wrap_u64]; omega
        have e3 : ((keep : Int) / 2 ^ m).tmod 2 = (q : Int) := Field.bit_tmod keep m q (by rw [hm]; exact hq)
        have hmm : min m 64 = m := by omega
        obtain ⟨k1, hk1⟩ : ∃ k1, k1 = k + 1 := ⟨_, rfl⟩
        have HE5 := Lib.hid (show IntKind.i64.wrap ((k : Int) + 1) = (k1 : Int) by rw [IntWalk.i64_in _ (by omega)]; omega)
        have HK1 := Lib.hid hk1
        have HE := Lib.hid (And.intro e1 (And.intro e2 e3)); have HMM := Lib.hid hmm
        have HQL := Lib.hid (show q < 2 by rw [← hq]; exact Nat.mod_lt _ (by decide))
        clear hm hq hx hrg e1 e2 e3 hmm hw ho hk1
        rcases (show q = 0 ∨ q = 1 by have := HQL.out; omega) with rfl | rfl
        · have HNN := Lib.hid (show over keep 0 (D.waits.take (k + 1)) D.safe = over keep 0 (D.waits.take k) D.safe by rw [HNX.out, HQ.out]; rfl)
          go_wp2_with (first
            | (refine wpList_load_mid rfl 82 (.tmp 18) rfl B (o + k * 2) rfl (wc x) _ HRG.out wU rfl (by rw [wc_length]; kernel_rfl) ?_)
            | (refine wpList_store_new rfl 82 (.tmp 5) (.tmp 19) rfl _ (wc x) rfl rfl rfl (by rw [wc_length]; kernel_rfl) (wc_one x) ?_
               intro w5 hB5 k5 z5
               obtain ⟨g5, hg5⟩ : ∃ g, g = wr.heap.size := ⟨_, rfl⟩
               rw [← hg5] at hB5 ⊢
               have HB5' := Lib.hid hB5; have HK5 := Lib.hid k5; have HG5' := Lib.hid (Nat.le_of_eq hg5.symm)
               have e1 := HE.out.1; have e2 := HE.out.2.1; have e3 := HE.out.2.2; have hmm := HMM.out; have e5 := HE5.out
               clear hg5 hB5 k5 z5))
          clear e1 e2 e3 hmm e5
          go_roundw
          case rel => exact ⟨k1, S', cS', by rw [HK1.out]; omega, rfl, HBr.out.keep HK5.out (fun e => e), by rw [HK1.out, HNN.out]; exact HRr.out.keep0 HK5.out, HC.out, fun j e => ⟨(HA.out j e).1, Nat.lt_of_lt_of_le (HA.out j e).2 HK5.out.size⟩, HKP.out.trans HK5.out (fun _ e => e.elim)⟩
          case measure => have := HK1.out; simp [intOf]; omega
        · have HNN := Lib.hid (show over keep 0 (D.waits.take (k + 1)) D.safe = (over keep 0 (D.waits.take k) D.safe).set x.1 x.2 by rw [HNX.out, HQ.out]; rfl)
          go_wp2_with (first
            | (refine wpList_load_mid rfl 82 (.tmp 18) rfl B (o + k * 2) rfl (wc x) _ HRG.out wU rfl (by rw [wc_length]; kernel_rfl) ?_)
            | (refine wpList_store_new rfl 82 (.tmp 5) (.tmp 19) rfl _ (wc x) rfl rfl rfl (by rw [wc_length]; kernel_rfl) (wc_one x) ?_
               intro w5 hB5 k5 z5
               obtain ⟨g5, hg5⟩ : ∃ g, g = wr.heap.size := ⟨_, rfl⟩
               rw [← hg5] at hB5 ⊢
               have HB5' := Lib.hid hB5; have HK5 := Lib.hid k5; have HG5' := Lib.hid (Nat.le_of_eq hg5.symm)
               have e1 := HE.out.1; have e2 := HE.out.2.1; have e3 := HE.out.2.2; have hmm := HMM.out; have e5 := HE5.out
               clear hg5 hB5 k5 z5))
          clear e1 e2 e3 hmm e5
          have HB7 := Lib.hid (HBr.out.keep (HK5.out.drew) (fun e => e))
          have HR7 := Lib.hid (HRr.out.keep0 (HK5.out.drew))
          have K7 := Lib.hid (HK5.out.drew)
          have HG5 := Lib.hid (show wr.heap.size ≤ g5 from HG5'.out)
          have HB5L := Lib.hid (show ∀ w8 : World, Kp nob w5.drew w8 → Blk w8 g5 82 (wc x) from fun w8 k8 => (HB5'.out.keep (Kp.refl nob w5).drew (fun e => e)).keep k8 (fun e => e))
          have HB5 := Lib.hid (show ∀ w8 : World, Kp nob w5.drew w8 → ∀ j, w8.cell? ⟨g5, j, none⟩ = (wc x)[j]? from fun w8 k8 j => ((HB5'.out.keep (Kp.refl nob w5).drew (fun e => e)).keep k8 (fun e => e)).cell j)
          have hS0 : w5.drew.cell? ⟨g5, 0, none⟩ = some (.int .i64 (x.1 : Int)) ∧ w5.drew.cell? ⟨g5, 1, none⟩ = some (.string (str x.2)) := ⟨HB5.out _ (Kp.refl _ _) 0, HB5.out _ (Kp.refl _ _) 1⟩
          have HS0 := Lib.hid hS0
          refine reg_begin (fun w' => w'.cell? ⟨g5, 0, none⟩ = some (.int .i64 (x.1 : Int)) ∧ w'.cell? ⟨g5, 1, none⟩ = some (.string (str x.2))) (by kernel_rfl) HS0.out (fun _ => ?_)
          clear hS0 HBr HRr HK5 HB5'
          generalize w5.drew = w7 at *
          refine reg_take (v := .pointer (some ⟨g, 0, none⟩)) 0 (some 27) rfl rfl (by kernel_rfl) (by kernel_rfl) (by kernel_rfl) (by rfl) HS0.out (fun w hw => by go_simp) ?_
          simp only [Act.put, List.setIfInBounds_toArray, List.set_cons_zero, List.set_cons_succ]
          refine reg_take (v := .pointer (some ⟨g, 0, none⟩)) 1 (some 28) rfl rfl (by kernel_rfl) (by kernel_rfl) (by kernel_rfl) (by rfl) HS0.out (fun w hw => by go_simp) ?_
          simp only [Act.put, List.setIfInBounds_toArray, List.set_cons_zero, List.set_cons_succ]
          refine reg_take (v := .pointer (some ⟨g, 0, none⟩)) 2 (some 29) rfl rfl (by kernel_rfl) (by kernel_rfl) (by kernel_rfl) (by rfl) HS0.out (fun w hw => by go_simp) ?_
          simp only [Act.put, List.setIfInBounds_toArray, List.set_cons_zero, List.set_cons_succ]
          refine reg_take (v := .pointer (some ⟨g, 1, none⟩)) 3 (some 30) rfl rfl (by kernel_rfl) (by kernel_rfl) (by kernel_rfl) (by rfl) HS0.out (fun w hw => by go_simp) ?_
          simp only [Act.put, List.setIfInBounds_toArray, List.set_cons_zero, List.set_cons_succ]
          refine reg_take (v := .pointer (some ⟨g5, 0, none⟩)) 5 (some 32) rfl rfl (by kernel_rfl) (by kernel_rfl) (by kernel_rfl) (by rfl) HS0.out (fun w hw => by go_simp) ?_
          simp only [Act.put, List.setIfInBounds_toArray, List.set_cons_zero, List.set_cons_succ]
          refine reg_take (v := .pointer (some ⟨g5, 1, none⟩)) 7 (some 34) rfl rfl (by kernel_rfl) (by kernel_rfl) (by kernel_rfl) (by rfl) HS0.out (fun w hw => by go_simp) ?_
          simp only [Act.put, List.setIfInBounds_toArray, List.set_cons_zero, List.set_cons_succ]
          refine reg_take (v := .int .i64 (x.1 : Int)) 6 (some 33) rfl rfl (by kernel_rfl) (by kernel_rfl) (by kernel_rfl) (by rfl) HS0.out (fun w hw => by have c0 := hw.1; go_simp) ?_
          simp only [Act.put, List.setIfInBounds_toArray, List.set_cons_zero, List.set_cons_succ]
          refine reg_take (v := .string (str x.2)) 8 (some 35) rfl rfl (by kernel_rfl) (by kernel_rfl) (by kernel_rfl) (by rfl) HS0.out (fun w hw => by have c1 := hw.2; go_simp) ?_
          simp only [Act.put, List.setIfInBounds_toArray, List.set_cons_zero, List.set_cons_succ]
          refine reg_step (w' := w7) (v := .slice S' D.safe.length cS') 4 (some 31) rfl rfl (by kernel_rfl) (by rfl) (by have c1 := HB7.out.cell 1; go_simp) HS0.out (fun _ => ?_)
          simp only [Act.put, List.setIfInBounds_toArray, List.set_cons_zero, List.set_cons_succ]
          refine reg_call 9 (some 36) rfl rfl (by kernel_rfl) (by rfl) _ _ (exec_func 47 _ _ [.slice S' D.safe.length cS', .int .i64 (x.1 : Int), .string (str x.2)] rfl (by kernel_rfl) rfl) ?_
          refine (fput (over keep 0 (D.waits.take k) D.safe) S' D.safe.length cS' x.1 x.2 w7 HR7.out (over_length _ _ _ _) HX1.out (by have := HLS.out; omega)).mono ?_
          rintro e w8 ⟨S2, c2, rfl, hr8, hc8, ha8, k8⟩
          have HS1 := Lib.hid (show w8.cell? ⟨g5, 0, none⟩ = some (.int .i64 (x.1 : Int)) ∧ w8.cell? ⟨g5, 1, none⟩ = some (.string (str x.2)) from ⟨HB5.out _ k8 0, HB5.out _ k8 1⟩)
          have HB8 := Lib.hid (HB7.out.keep k8 (fun e => e))
          have HR8 := Lib.hid hr8; have HC8 := Lib.hid hc8; have HA8 := Lib.hid ha8
          have K8 := Lib.hid (K7.out.trans k8 (fun _ e => e.elim)); have k8L := Lib.hid k8
          clear hr8 hc8 ha8 k8
          refine ⟨_, rfl, HS1.out, fun _ => ?_⟩
          simp only [Act.put, List.setIfInBounds_toArray, List.set_cons_zero, List.set_cons_succ]
          refine reg_take (v := .pointer (some ⟨g, 0, none⟩)) 10 (some 37) rfl rfl (by kernel_rfl) (by kernel_rfl) (by kernel_rfl) (by rfl) HS1.out (fun w hw => by go_simp) ?_
          simp only [Act.put, List.setIfInBounds_toArray, List.set_cons_zero, List.set_cons_succ]
          refine reg_take (v := .pointer (some ⟨g, 1, none⟩)) 11 (some 38) rfl rfl (by kernel_rfl) (by kernel_rfl) (by kernel_rfl) (by rfl) HS1.out (fun w hw => by go_simp) ?_
          simp only [Act.put, List.setIfInBounds_toArray, List.set_cons_zero, List.set_cons_succ]
          have HGW := Lib.hid (show g < wr.heap.size from Nat.lt_of_lt_of_le HG.out HKP.out.size)
          have HS2 := Lib.hid (show (w8.setCell ⟨g, 1, none⟩ (.slice S2 D.safe.length c2)).cell? ⟨g5, 0, none⟩ = some (.int .i64 (x.1 : Int)) ∧ (w8.setCell ⟨g, 1, none⟩ (.slice S2 D.safe.length c2)).cell? ⟨g5, 1, none⟩ = some (.string (str x.2)) from by
            have hne : g5 ≠ g := by have := HG5.out; have := HGW.out; omega
            have hb := ((HB5L.out w8 k8L.out)).far (p := ⟨g, 1, none⟩) hne (.slice S2 D.safe.length c2)
            exact ⟨hb.cell 0, hb.cell 1⟩)
          refine reg_mute (w' := w8.setCell ⟨g, 1, none⟩ (.slice S2 D.safe.length c2)) 12 none rfl rfl (by kernel_rfl) (by rfl) (by have c1 := HB8.out.cell 1; have f1 := HB8.out.frozen 1; go_simp) HS2.out (fun _ => ?_)
          simp only [Act.put, List.setIfInBounds_toArray, List.set_cons_zero, List.set_cons_succ]
          refine reg_end (by kernel_rfl) ?_
          have e5 := HE5.out
          go_wp2
          clear e5
          go_roundw
          case rel =>
            refine ⟨k1, S2, c2, by rw [HK1.out]; omega, rfl, ?_, ?_, HC8.out, ?_, ?_⟩
            · have := HB8.out.set_ 1 (.slice S2 D.safe.length c2)
              exact this
            · rw [HK1.out, HNN.out]
              exact HR8.out.keep (F := oneB g) ((Kp.refl (oneB g) w8).setCell (p := ⟨g, 1, none⟩) (.inl rfl) _) (fun j e e2 => by have := (HA8.out j e).1; have := K7.out.size; have := HGW.out; unfold oneB at e2; omega)
            · exact fun j e => ⟨.inr (by have := (HA8.out j e).1; have := K7.out.size; have := HKP.out.size; omega), by have := (HA8.out j e).2; simpa using this⟩
            · exact (HKP.out.trans K8.out (fun _ e => e.elim)).setCell (p := ⟨g, 1, none⟩) (.inl rfl) _
          case measure => have := HK1.out; simp [intOf]; omega
      · obtain rfl : k = D.waits.length := by omega
        have HRr2 := Lib.hid (show Row wr S' (svs (over keep 0 D.waits D.safe)) by have := HRr.out; rwa [List.take_length] at this)
        have hlen := over_length keep D.waits 0 D.safe
        obtain ⟨c0, c1, c2, c3', c4, c5, c6⟩ : wr.cell? ⟨g, 0, none⟩ = some (.slice N D.now.length cN) ∧ wr.cell? ⟨g, 1, none⟩ = some (.slice S' D.safe.length cS') ∧ wr.cell? ⟨g, 2, none⟩ = some (.slice W D.waits.length cW) ∧ wr.cell? ⟨g, 3, none⟩ = some (.bool false) ∧ wr.cell? ⟨g, 4, none⟩ = some (.int .i64 (D.acts : Int)) ∧ wr.cell? ⟨g, 5, none⟩ = some (.int .i64 (D.fuse : Int)) ∧ wr.cell? ⟨g, 6, none⟩ = some (.int .u64 (D.keep : Int)) := ⟨HBr.out.cell 0, HBr.out.cell 1, HBr.out.cell 2, HBr.out.cell 3, HBr.out.cell 4, HBr.out.cell 5, HBr.out.cell 6⟩
        have f0 : wr.frozen? ⟨g, 0, none⟩ = false := HBr.out.frozen _
        have f2 : wr.frozen? ⟨g, 2, none⟩ = false := HBr.out.frozen _
        have f3 : wr.frozen? ⟨g, 3, none⟩ = false := HBr.out.frozen _
        have f5 : wr.frozen? ⟨g, 5, none⟩ = false := HBr.out.frozen _
        have HLN := Lib.hid hlen
        clear hlt hk hlen hw ho
        go_wp2
        have K2 := ((((Kp.refl (oneB g) wr).setCell (p := ⟨g, 0, none⟩) (.inl rfl) (.slice S' D.safe.length cS')).setCell (p := ⟨g, 2, none⟩) (.inl rfl) (.slice none 0 0)).setCell (p := ⟨g, 3, none⟩) (.inl rfl) (.bool true)).setCell (p := ⟨g, 5, none⟩) (.inl rfl) (.int .i64 0)
        have HB2 := (((HBr.out.set_ 0 (.slice S' D.safe.length cS')).set_ 2 (.slice none 0 0)).set_ 3 (.bool true)).set_ 5 (.int .i64 0)
        refine bodyPost_end (results_none rfl _ _ _) rfl ⟨rfl, ?_⟩
        have hG : ∀ j, ab S' = some j → j ≠ g := fun j e => (HA.out j e).1.elim (fun h => h.2) (fun h => by have := HG.out; omega)
        rw [HR.out]
        refine ⟨fun j => F j ∨ ab S' = some j, S', S', none, cS', cS', 0, ⟨?_, ?_, ?_, Row.nil _ _, ⟨?_, ?_, Nat.le_refl _⟩, ?_, ?_, ?_, .inl HD.out.g, ?_⟩, ?_, ?_⟩
        · have e : (over keep 0 D.waits D.safe).length = D.safe.length := HLN.out
          show Blk _ _ _ [.slice S' (over keep 0 D.waits D.safe).length cS', .slice S' (over keep 0 D.waits D.safe).length cS', .slice none 0 0, .bool true, .int .i64 (D.acts : Int), .int .i64 0, .int .u64 (D.keep : Int)]
          rw [e]; exact HB2
        · exact HRr2.out.keep K2 (fun j e e2 => hG j e e2)
        · exact HRr2.out.keep K2 (fun j e e2 => hG j e e2)
        · show (over keep 0 D.waits D.safe).length ≤ cS'; rw [HLN.out]; exact HC.out
        · show (over keep 0 D.waits D.safe).length ≤ cS'; rw [HLN.out]; exact HC.out
        · exact fun j e => ⟨.inr e, hG j e⟩
        · exact fun j e => ⟨.inr e, hG j e⟩
        · exact fun j e => by cases e
        · intro j e
          have hsz := K2.size
          rcases e with e | e
          · exact Nat.lt_of_lt_of_le (HD.out.lt j e) (Nat.le_trans HKP.out.size hsz)
          · exact Nat.lt_of_lt_of_le (HA.out j e).2 hsz
        · intro j e
          rcases e with e | e
          · exact .inl e
          · rcases (HA.out j e).1 with h | h
            · exact .inl h.1
            · exact .inr h
        · exact (HKP.out.trans K2 (fun _ e => .inl e)).mono (fun j _ e => by cases e; exact HD.out.g)
end Go.Proofs.Ytndkmfflpphoiaa.Disk
namespace Go.Proofs.Ytndkmfflpphoiaa.Kit
open Go Go.RowKit
theorem reg_grow {P : Program} {md : Region.Mode} {ops : Array Oper} {Q : Exit → Act → World → Prop} {S S' : World → Prop} (hSS : ∀ w, S' w → S w) :
    ∀ (fuel : Nat) (listed : Array Bool) (a : Act) (w : World), wpAnyH P md ops Q S' fuel listed a w → wpAnyH P md ops Q S fuel listed a w
  | 0, _, _, _, h => h
  | fuel + 1, _, _, _, h => ⟨h.1, fun i hi => wpOp_mono (fun a' w' h' => ⟨hSS _ h'.1, reg_grow hSS fuel _ a' w' h'.2⟩) (h.2 i hi)⟩
/-- From here on S' is known of every world, too. -/
theorem reg_more {P : Program} {md : Region.Mode} {ops : Array Oper} {Q : Exit → Act → World → Prop} {S : World → Prop} (S' : World → Prop) (hSS : ∀ w, S' w → S w) {fuel : Nat} {listed : Array Bool} {a : Act} {w : World}
    (h : wpAnyH P md ops (NoPanic Q) S' fuel listed a w) : wpAnyH P md ops (NoPanic Q) S fuel listed a w := reg_grow hSS fuel listed a w h
end Go.Proofs.Ytndkmfflpphoiaa.Kit
namespace Go.Proofs.Ytndkmfflpphoiaa.Disk
open Go Go.RowKit Kit
theorem exec_make256 {act : Act} {o : Oper} (x : Operand) (w : World) (ho : o.op = .makeSlice 36 x x) (hx : act.eval x = .int .i64 256) :
    (execOp act.eval o).run Try.prog w = .ok (.value (.slice (some ⟨w.heap.size, 0, none⟩) 256 256)) (w.alloc (.cells (bvs (List.replicate 256 0)).toArray 5)) := by
  have h : (Instr.makeSlice 36 (.int .i64 256) (.int .i64 256)).run Try.prog w = _ := make_any 256 (by decide) w
  unfold execOp
  simp only [ho, hx, Sem.run_bind, h, Result.andThen_ok, Sem.run_pure]
theorem one_build (s : ByteArray) (w : World) : (Instr.buildSlice 47 1 #[(0, .string s)]).run Try.prog w = .ok (.slice (some ⟨w.heap.size, 0, none⟩) 1 1) (w.alloc (.cells #[.string s] 9)) := by kernel_rfl
theorem exec_one {act : Act} {o : Oper} (x : Operand) (s : ByteArray) (w : World) (ho : o.op = .buildSlice 47 1 #[(0, x)]) (hx : act.eval x = .string s) :
    (execOp act.eval o).run Try.prog w = .ok (.value (.slice (some ⟨w.heap.size, 0, none⟩) 1 1)) (w.alloc (.cells #[.string s] 9)) := by
  have h := one_build s w
  unfold execOp
  simp only [ho, hx, Sem.run_bind, List.map_toArray, List.map_cons, List.map_nil, h, Result.andThen_ok, Sem.run_pure]
/-- The sectors that were made so far. -/
def zrow (k : Nat) : List Value := List.replicate k (.string (str (List.replicate 256 0)))
theorem zrow_snoc (k : Nat) : zrow k ++ [.string (str (List.replicate 256 0))] = zrow (k + 1) := (List.replicate_succ' (n := k) (a := Value.string (str (List.replicate 256 0)))).symm
theorem zrow_svs (k : Nat) : zrow k = svs (List.replicate k (full [])) := by rw [zrow, svs, List.map_replicate]; rfl
/-- A new disk at g, whose rows have n and s sectors so far. -/
structure Nw (w wr : World) (g' k' l : Nat) (N S : Option Addr) (cN cS : Nat) : Prop where
  b : Blk wr g' 50 [.slice N k' cN, .slice S l cS, .slice none 0 0, .bool false, .int .i64 0, .int .i64 0, .int .u64 0]
  n : OwnK 1 9 wr N k' cN (zrow k')
  s : OwnK 1 9 wr S l cS (zrow l)
  fn : ∀ j, ab N = some j → w.heap.size ≤ j ∧ j ≠ g'
  fs : ∀ j, ab S = some j → w.heap.size ≤ j ∧ j ≠ g'
  ne : ∀ j, ab N = some j → ab S ≠ some j
  g : w.heap.size ≤ g'
  k : Kp nob w wr
theorem Nw.keep0 {w wr w2 : World} {g k l : Nat} {N S : Option Addr} {cN cS : Nat} (h : Nw w wr g k l N S cN cS) (hk : Kp nob wr w2) : Nw w w2 g k l N S cN cS :=
  ⟨h.b.keep hk (fun e => e), h.n.keep hk (fun _ _ e => e), h.s.keep hk (fun _ _ e => e), h.fn, h.fs, h.ne, h.g, h.k.trans hk (fun _ e => e.elim)⟩
theorem Nw.app0 {w wr : World} {g k l : Nat} {N S : Option Addr} {cN cS : Nat} (h : Nw w wr g k l N S cN cS) (A2 : Option Addr) (c2 : Nat) (w4 : World) (o4 : OwnK 1 9 w4 A2 (k + 1) c2 (zrow k ++ [.string (str (List.replicate 256 0))])) (g4 : wr.grownBy w4 (ab N)) (a4 : ab A2 = ab N ∨ ab A2 = some wr.heap.size) :
    Kp nob w w4 ∧ Blk w4 g 50 [.slice N k cN, .slice S l cS, .slice none 0 0, .bool false, .int .i64 0, .int .i64 0, .int .u64 0] ∧ Nw w (w4.setCell ⟨g, 0, none⟩ (.slice A2 (k + 1) c2)) g (k + 1) l A2 S c2 cS := by
  have hF : Kp (fun i => ab N = some i) wr w4 := (Kp.refl _ wr).grown g4 (fun k e => .inl e)
  have k4 : Kp nob w w4 := h.k.since hF (fun i e => (h.fn i e).1)
  have b4 := h.b.keep hF (fun e => (h.fn g e).2 rfl)
  have ks : Kp (oneB g) w4 (w4.setCell ⟨g, 0, none⟩ (.slice A2 (k + 1) c2)) := (Kp.refl (oneB g) w4).setCell (p := ⟨g, 0, none⟩) (.inl rfl) _
  have fa : ∀ j, ab A2 = some j → w.heap.size ≤ j ∧ j ≠ g ∧ ab S ≠ some j := by
    intro j e
    rcases a4 with h1 | h1
    · rw [h1] at e; exact ⟨(h.fn j e).1, (h.fn j e).2, h.ne j e⟩
    · rw [h1] at e; cases e
      have hg := h.b.lt
      exact ⟨h.k.size, fun e => by omega, fun e => by have := h.s.lt _ e; omega⟩
  refine ⟨k4, b4, b4.set_ 0 _, ?_, ?_, fun j e => ⟨(fa j e).1, (fa j e).2.1⟩, h.fs, fun j e => (fa j e).2.2, h.g, k4.since ks (fun i e => by have e : i = g := e; rw [e]; exact h.g)⟩
  · rw [← zrow_snoc]; exact o4.keep ks (fun j e => (fa j e).2.1)
  · exact (h.s.keep hF (fun j e e2 => h.ne j e2 e)).keep ks (fun j e => (h.fs j e).2)
theorem Nw.app1 {w wr : World} {g k l : Nat} {N S : Option Addr} {cN cS : Nat} (h : Nw w wr g k l N S cN cS) (A2 : Option Addr) (c2 : Nat) (w4 : World) (o4 : OwnK 1 9 w4 A2 (l + 1) c2 (zrow l ++ [.string (str (List.replicate 256 0))])) (g4 : wr.grownBy w4 (ab S)) (a4 : ab A2 = ab S ∨ ab A2 = some wr.heap.size) :
    Kp nob w w4 ∧ Blk w4 g 50 [.slice N k cN, .slice S l cS, .slice none 0 0, .bool false, .int .i64 0, .int .i64 0, .int .u64 0] ∧ Nw w (w4.setCell ⟨g, 1, none⟩ (.slice A2 (l + 1) c2)) g k (l + 1) N A2 cN c2 := by
  have hF : Kp (fun i => ab S = some i) wr w4 := (Kp.refl _ wr).grown g4 (fun k e => .inl e)
  have k4 : Kp nob w w4 := h.k.since hF (fun i e => (h.fs i e).1)
  have b4 := h.b.keep hF (fun e => (h.fs g e).2 rfl)
  have ks : Kp (oneB g) w4 (w4.setCell ⟨g, 1, none⟩ (.slice A2 (l + 1) c2)) := (Kp.refl (oneB g) w4).setCell (p := ⟨g, 1, none⟩) (.inl rfl) _
  have fa : ∀ j, ab A2 = some j → w.heap.size ≤ j ∧ j ≠ g ∧ ab N ≠ some j := by
    intro j e
    rcases a4 with h1 | h1
    · rw [h1] at e; exact ⟨(h.fs j e).1, (h.fs j e).2, fun e2 => h.ne j e2 e⟩
    · rw [h1] at e; cases e
      have hg := h.b.lt
      exact ⟨h.k.size, fun e => by omega, fun e => by have := h.n.lt _ e; omega⟩
  refine ⟨k4, b4, b4.set_ 1 _, ?_, ?_, h.fn, fun j e => ⟨(fa j e).1, (fa j e).2.1⟩, fun j e e2 => (fa j e2).2.2 e, h.g, k4.since ks (fun i e => by have e : i = g := e; rw [e]; exact h.g)⟩
  · exact (h.n.keep hF (fun j e e2 => h.ne j e e2)).keep ks (fun j e => (h.fn j e).2)
  · rw [← zrow_snoc]; exact o4.keep ks (fun j e => (fa j e).2.1)
theorem Nw.done {w wr : World} {g k : Nat} {N S : Option Addr} {cN cS : Nat} (h : Nw w wr g k k N S cN cS) : ∃ F, Dd wr g F N S none cN cS 0 (new k) ∧ (∀ j, F j → w.heap.size ≤ j) := by
  refine ⟨fun j => j = g ∨ ab N = some j ∨ ab S = some j, ⟨?_, ?_, ?_, Row.nil _ _, ⟨?_, ?_, Nat.le_refl _⟩, fun j e => ⟨.inr (.inl e), (h.fn j e).2⟩, fun j e => ⟨.inr (.inr e), (h.fs j e).2⟩, fun j e => (by cases e), .inl rfl, ?_⟩, ?_⟩
  · show Blk _ _ _ [.slice N (List.replicate k (full [])).length cN, .slice S (List.replicate k (full [])).length cS, _, _, _, _, _]
    rw [List.length_replicate]; exact h.b
  · have := h.n.row; rw [zrow_svs] at this; exact this
  · have := h.s.row; rw [zrow_svs] at this; exact this
  · show (List.replicate k (full [])).length ≤ cN; rw [List.length_replicate]; exact h.n.cap.1
  · show (List.replicate k (full [])).length ≤ cS; rw [List.length_replicate]; exact h.s.cap.1
  · rintro j (rfl | e | e)
    · exact h.b.lt
    · exact h.n.lt j e
    · exact h.s.lt j e
  · rintro j (rfl | e | e)
    · exact h.g
    · exact (h.fn j e).1
    · exact (h.fs j e).1
/-- How many sectors a new disk of the document has. -/
def clampF (n : Int) : Nat := min n.toNat 4096
set_option maxHeartbeats 8000000 in
set_option maxRecDepth 100000 in
theorem fNew (n : Int) (w : World) :
    Calls Try.prog 11 #[.int .i64 n] w fun e w' => ∃ g F N S cN cS, e = .returned (.pointer (some ⟨g, 0, none⟩)) ∧ Dd w' g F N S none cN cS 0 (new (clampF n)) ∧ (∀ j, F j → w.heap.size ≤ j) ∧ Kp nob w w' := by
  obtain ⟨i0, hi0, hz0, hz1, hz2⟩ := info_parts3 str_info
  have HI := Lib.hid (And.intro hi0 (And.intro hz0 (And.intro hz1 hz2)))
  obtain ⟨q, hq⟩ : ∃ q, q = clampF n := ⟨_, rfl⟩
  have HQ := Lib.hid (show q = min n.toNat 4096 from hq)
  rw [← hq]
  clear hq hi0 hz0 hz1 hz2
  go_enter Try.func11, Try.ntmps11
  go_upto_region 2 with fail
  obtain ⟨g, hg⟩ : ∃ g, g = w.heap.size := ⟨_, rfl⟩
  have H0 := Lib.hid (show Nw w (w.alloc (.cells #[.slice none 0 0, .slice none 0 0, .slice none 0 0, .bool false, .int .i64 0, .int .i64 0, .int .u64 0] 50)) g 0 0 none none 0 0 from
    ⟨Blk.new' hg rfl, OwnK.nil _ _ _, OwnK.nil _ _ _, fun j e => (by cases e), fun j e => (by cases e), fun j e => (by cases e), Nat.le_of_eq hg.symm, (Kp.refl nob w).alloc _⟩)
  rw [← hg]
  generalize w.alloc (.cells #[.slice none 0 0, .slice none 0 0, .slice none 0 0, .bool false, .int .i64 0, .int .i64 0, .int .u64 0] 50) = wa at *
  clear hg
  go_wp2
  go_loopw [4] (fun vi wr => ∃ (k : Nat) (N S : Option Addr) (cN cS : Nat), k ≤ q ∧ vi = .int .i64 k ∧ Nw w wr g k k N S cN cS)
    (fun vi _ => q - (intOf vi).toNat)
  case atStart => exact ⟨0, none, none, 0, 0, Nat.zero_le _, rfl, H0.out⟩
  case round =>
    obtain ⟨k, N, S, cN, cS, hk, rfl, hx⟩ := hrel
    have HX := Lib.hid hx
    clear hx H0
    have HK := Lib.hid (show k ≤ 4096 by have := HQ.out; omega)
    by_cases hlt : k < q
    · have d1 : decide ((k : Int) < n) = true := decide_eq_true (by have := HQ.out; omega)
      have d2 : decide ((k : Int) < 4096) = true := decide_eq_true (by have := HQ.out; omega)
      have d2n : decide (k < 4096) = true := decide_eq_true (by have := HQ.out; omega)
      obtain ⟨k1', hk1⟩ : ∃ k1, k1 = k + 1 := ⟨_, rfl⟩
      have HE5 := Lib.hid (show IntKind.i64.wrap ((k : Int) + 1) = (k1' : Int) by have := HK.out; rw [IntWalk.i64_in _ (by omega)]; omega)
      have HK1 := Lib.hid hk1; have HLT := Lib.hid hlt
      clear hlt hk hk1
      go_upto_region 5 with fail
      clear d1 d2 d2n
      go_cut [] from 16 to 26 (fun wx => ∃ (A2 : Option Addr) (c2 : Nat), Nw w wx g (k + 1) k A2 S c2 cS)
      case first =>
        have HA1 := Lib.hid ((Kp.refl nob wr).drew)
        have HS1 := Lib.hid (HX.out.k.trans HA1.out (fun _ e => e.elim))
        have HX1 := Lib.hid (HX.out.keep0 HA1.out)
        refine reg_begin (fun w' => Kp nob w w') (by kernel_rfl) HS1.out (fun _ => ?_)
        generalize wr.drew = w1 at *
        obtain ⟨gz, hgz⟩ : ∃ q, q = w1.heap.size := ⟨_, rfl⟩
        obtain ⟨w2, hw2⟩ : ∃ w2, w2 = w1.alloc (.cells (bvs (List.replicate 256 0)).toArray 5) := ⟨_, rfl⟩
        obtain ⟨g3, hg3⟩ : ∃ q, q = w2.heap.size := ⟨_, rfl⟩
        obtain ⟨w3, hw3⟩ : ∃ w3, w3 = w2.alloc (.cells #[.string (str (List.replicate 256 0))] 9) := ⟨_, rfl⟩
        have HK12 := Lib.hid (show Kp nob w1 w2 by rw [hw2]; exact (Kp.refl nob w1).alloc _)
        have HK23 := Lib.hid (show Kp nob w2 w3 by rw [hw3]; exact (Kp.refl nob w2).alloc _)
        have HRW := Lib.hid (show Blk w2 gz 5 (bvs (List.replicate 256 0)) by rw [hgz, hw2]; exact Blk.new w1 _ _)
        have HRS := Lib.hid (show Row w3 (some ⟨g3, 0, none⟩) [.string (str (List.replicate 256 0))] by rw [hg3, hw3]; exact row_one w2 _ _)
        have HGZ := Lib.hid (show w.heap.size ≤ gz ∧ gz ≠ g ∧ (∀ j, ab N = some j → j ≠ gz) from ⟨by rw [hgz]; exact HS1.out.size, fun e => by have := HX1.out.b.lt; omega, fun j e e2 => by have := HX1.out.n.lt j e; omega⟩)
        have EM := Lib.hid (show ∀ (act : Act) (o : Oper) (x : Operand), o.op = .makeSlice 36 x x → act.eval x = .int .i64 256 → (execOp act.eval o).run Try.prog w1 = .ok (.value (.slice (some ⟨gz, 0, none⟩) 256 256)) w2 from fun act o x ho hx => by rw [hgz, hw2]; exact exec_make256 x w1 ho hx)
        have EB := Lib.hid (show ∀ (act : Act) (o : Oper) (x : Operand), o.op = .buildSlice 47 1 #[(0, x)] → act.eval x = .string (str (List.replicate 256 0)) → (execOp act.eval o).run Try.prog w2 = .ok (.value (.slice (some ⟨g3, 0, none⟩) 1 1)) w3 from fun act o x ho hx => by rw [hg3, hw3]; exact exec_one x _ w2 ho hx)
        have HS2 := Lib.hid (HS1.out.trans HK12.out (fun _ e => e.elim))
        have HS3 := Lib.hid (HS2.out.trans HK23.out (fun _ e => e.elim))
        clear hgz hw2 hg3 hw3
        have c0 : w1.cell? ⟨g, 0, none⟩ = some (.slice N k cN) := HX1.out.b.cell 0
        have c2 : w2.cell? ⟨g, 0, none⟩ = some (.slice N k cN) := (HX1.out.b.keep HK12.out (fun e => e)).cell 0
        have c3 : w3.cell? ⟨g, 0, none⟩ = some (.slice N k cN) := ((HX1.out.b.keep HK12.out (fun e => e)).keep HK23.out (fun e => e)).cell 0
        refine reg_take (v := .pointer (some ⟨g, 0, none⟩)) 0 (some 16) rfl rfl (by kernel_rfl) (by kernel_rfl) (by kernel_rfl) (by rfl) HS1.out (fun w hw => by go_simp) ?_
        simp only [Act.put, List.setIfInBounds_toArray, List.set_cons_zero, List.set_cons_succ]
        refine reg_take (v := .pointer (some ⟨g, 0, none⟩)) 1 (some 17) rfl rfl (by kernel_rfl) (by kernel_rfl) (by kernel_rfl) (by rfl) HS1.out (fun w hw => by go_simp) ?_
        simp only [Act.put, List.setIfInBounds_toArray, List.set_cons_zero, List.set_cons_succ]
        refine reg_take (v := .pointer (some ⟨g, 0, none⟩)) 2 (some 18) rfl rfl (by kernel_rfl) (by kernel_rfl) (by kernel_rfl) (by rfl) HS1.out (fun w hw => by go_simp) ?_
        simp only [Act.put, List.setIfInBounds_toArray, List.set_cons_zero, List.set_cons_succ]
        refine reg_take (v := .pointer (some ⟨g, 0, none⟩)) 3 (some 19) rfl rfl (by kernel_rfl) (by kernel_rfl) (by kernel_rfl) (by rfl) HS1.out (fun w hw => by go_simp) ?_
        simp only [Act.put, List.setIfInBounds_toArray, List.set_cons_zero, List.set_cons_succ]
        refine reg_stepOr (v := .slice N k cN) (wi := w1) (u := .slice (some ⟨gz, 0, none⟩) 256 256) (wj := w2) 4 5 (some 20) (some 21) rfl rfl rfl rfl (by kernel_rfl) (by rfl) (by rfl) (by clear c2 c3; go_simp) (EM.out _ _ _ rfl rfl) HS1.out HS2.out (fun _ => ?_) (fun _ => ?_)
        case' refine_1 =>
          simp only [Act.put, List.setIfInBounds_toArray, List.set_cons_zero, List.set_cons_succ]
          refine reg_step 5 (some 21) rfl rfl (by kernel_rfl) (by rfl) (EM.out _ _ _ rfl rfl) HS2.out (fun _ => ?_)
          simp only [Act.put, List.setIfInBounds_toArray, List.set_cons_zero, List.set_cons_succ]
          refine reg_more (fun w' => Kp nob w w' ∧ Blk w' gz 5 (bvs (List.replicate 256 0))) (fun w' h => h.1) ?_
          have HT2 := Lib.hid (And.intro HS2.out HRW.out)
          have HT3 := Lib.hid (And.intro HS3.out (HRW.out.keep HK23.out (fun e => e)))
          refine reg_bytesStr 6 (some 22) 36 9 5 (.tmp 21) rfl rfl rfl (by kernel_rfl) (by kernel_rfl) (by kernel_rfl) (by rfl) HT2.out u8_under (by kernel_rfl) u8_string (some ⟨gz, 0, none⟩) 256 256 (List.replicate 256 0) (by rw [List.length_replicate]) rfl (fun w h => h.2.row) ?_
          simp only [Act.put, List.setIfInBounds_toArray, List.set_cons_zero, List.set_cons_succ]
          refine reg_step 7 (some 23) rfl rfl (by kernel_rfl) (by rfl) (EB.out _ _ _ rfl rfl) HT3.out (fun _ => ?_)
        case' refine_2 =>
          simp only [Act.put, List.setIfInBounds_toArray, List.set_cons_zero, List.set_cons_succ]
          refine reg_more (fun w' => Kp nob w w' ∧ Blk w' gz 5 (bvs (List.replicate 256 0))) (fun w' h => h.1) ?_
          have HT2 := Lib.hid (And.intro HS2.out HRW.out)
          have HT3 := Lib.hid (And.intro HS3.out (HRW.out.keep HK23.out (fun e => e)))
          refine reg_bytesStr 6 (some 22) 36 9 5 (.tmp 21) rfl rfl rfl (by kernel_rfl) (by kernel_rfl) (by kernel_rfl) (by rfl) HT2.out u8_under (by kernel_rfl) u8_string (some ⟨gz, 0, none⟩) 256 256 (List.replicate 256 0) (by rw [List.length_replicate]) rfl (fun w h => h.2.row) ?_
          simp only [Act.put, List.setIfInBounds_toArray, List.set_cons_zero, List.set_cons_succ]
          refine reg_stepOr (v := .slice N k cN) (wi := w2) (u := .slice (some ⟨g3, 0, none⟩) 1 1) (wj := w3) 4 7 (some 20) (some 23) rfl rfl rfl rfl (by kernel_rfl) (by rfl) (by rfl) (by clear c0 c3; go_simp) (EB.out _ _ _ rfl rfl) HT2.out HT3.out (fun _ => ?_) (fun _ => ?_)
        case' refine_2.refine_1 =>
          simp only [Act.put, List.setIfInBounds_toArray, List.set_cons_zero, List.set_cons_succ]
          refine reg_step 7 (some 23) rfl rfl (by kernel_rfl) (by rfl) (EB.out _ _ _ rfl rfl) HT3.out (fun _ => ?_)
        case' refine_2.refine_2 =>
          simp only [Act.put, List.setIfInBounds_toArray, List.set_cons_zero, List.set_cons_succ]
          refine reg_step (w' := w3) (v := .slice N k cN) 4 (some 20) rfl rfl (by kernel_rfl) (by rfl) (by clear c0 c2; go_simp) HT3.out (fun _ => ?_)
        all_goals
          simp only [Act.put, List.setIfInBounds_toArray, List.set_cons_zero, List.set_cons_succ]
          clear c0 c2 c3
          have HO3 := Lib.hid ((HX1.out.keep0 HK12.out).keep0 HK23.out)
          refine reg_appK 8 (some 24) (.tmp 20) (.tmp 23) 47 rfl rfl rfl (by kernel_rfl) (by rfl) 1 (by decide) 9 i0 _ 16 str_under HI.out.1 HI.out.2.1 HI.out.2.2.1 HI.out.2.2.2 rfl N k cN _ rfl HO3.out.n ⟨g3, 0, none⟩ 1 1 [.string (str (List.replicate 256 0))] rfl rfl HRS.out (by intro u hu; rw [List.mem_singleton.1 hu]; rfl) (by have := HK.out; omega) (by have := HK.out; omega) ?_
          intro A2 c2 w4 o4 g4 a4
          have HX4 := Lib.hid (HO3.out.app0 A2 c2 w4 o4 g4 a4)
          have HS4 := Lib.hid (show Kp nob w w4 ∧ Blk w4 gz 5 (bvs (List.replicate 256 0)) from ⟨HX4.out.1, HT3.out.2.keep ((Kp.refl (fun i => ab N = some i) w3).grown g4 (fun k e => .inl e)) (fun e => HGZ.out.2.2 gz e rfl)⟩)
          clear o4 g4 a4
          refine ⟨HS4.out, fun _ => ?_⟩
          simp only [Act.put, List.setIfInBounds_toArray, List.set_cons_zero, List.set_cons_succ]
          refine reg_take (v := .pointer (some ⟨g, 0, none⟩)) 9 (some 25) rfl rfl (by kernel_rfl) (by kernel_rfl) (by kernel_rfl) (by rfl) HS4.out (fun w hw => by go_simp) ?_
          simp only [Act.put, List.setIfInBounds_toArray, List.set_cons_zero, List.set_cons_succ]
          refine reg_take (v := .pointer (some ⟨g, 0, none⟩)) 10 (some 26) rfl rfl (by kernel_rfl) (by kernel_rfl) (by kernel_rfl) (by rfl) HS4.out (fun w hw => by go_simp) ?_
          simp only [Act.put, List.setIfInBounds_toArray, List.set_cons_zero, List.set_cons_succ]
          have c4 := HX4.out.2.1.cell 0
          have f4 := HX4.out.2.1.frozen 0
          have HS5 := Lib.hid (show Kp nob w (w4.setCell ⟨g, 0, none⟩ (.slice A2 (k + 1) c2)) ∧ Blk (w4.setCell ⟨g, 0, none⟩ (.slice A2 (k + 1) c2)) gz 5 (bvs (List.replicate 256 0)) from ⟨HS4.out.1.setCell (p := ⟨g, 0, none⟩) (.inr HX1.out.g) _, HS4.out.2.far (p := ⟨g, 0, none⟩) HGZ.out.2.1 _⟩)
          refine reg_mute (w' := w4.setCell ⟨g, 0, none⟩ (.slice A2 (k + 1) c2)) 11 none rfl rfl (by kernel_rfl) (by rfl) (by go_simp) HS5.out (fun _ => ?_)
          simp only [Act.put, List.setIfInBounds_toArray, List.set_cons_zero, List.set_cons_succ]
          clear c4 f4
          refine reg_end (by kernel_rfl) ?_
          have HY := Lib.hid HX4.out.2.2
          go_wp2_with fail
          go_meet
          exact ⟨A2, c2, HY.out⟩
      case rest =>
        clear HX
        obtain ⟨N, cN, hx1⟩ := hcut
        have HX := Lib.hid hx1
        clear hx1
        go_upto_region 6 with fail
        have HA1 := Lib.hid ((Kp.refl nob wc).drew)
        have HS1 := Lib.hid (HX.out.k.trans HA1.out (fun _ e => e.elim))
        have HX1 := Lib.hid (HX.out.keep0 HA1.out)
        refine reg_begin (fun w' => Kp nob w w') (by kernel_rfl) HS1.out (fun _ => ?_)
        generalize wc.drew = w1 at *
        obtain ⟨gz, hgz⟩ : ∃ q, q = w1.heap.size := ⟨_, rfl⟩
        obtain ⟨w2, hw2⟩ : ∃ w2, w2 = w1.alloc (.cells (bvs (List.replicate 256 0)).toArray 5) := ⟨_, rfl⟩
        obtain ⟨g3, hg3⟩ : ∃ q, q = w2.heap.size := ⟨_, rfl⟩
        obtain ⟨w3, hw3⟩ : ∃ w3, w3 = w2.alloc (.cells #[.string (str (List.replicate 256 0))] 9) := ⟨_, rfl⟩
        have HK12 := Lib.hid (show Kp nob w1 w2 by rw [hw2]; exact (Kp.refl nob w1).alloc _)
        have HK23 := Lib.hid (show Kp nob w2 w3 by rw [hw3]; exact (Kp.refl nob w2).alloc _)
        have HRW := Lib.hid (show Blk w2 gz 5 (bvs (List.replicate 256 0)) by rw [hgz, hw2]; exact Blk.new w1 _ _)
        have HRS := Lib.hid (show Row w3 (some ⟨g3, 0, none⟩) [.string (str (List.replicate 256 0))] by rw [hg3, hw3]; exact row_one w2 _ _)
        have HGZ := Lib.hid (show w.heap.size ≤ gz ∧ gz ≠ g ∧ (∀ j, ab S = some j → j ≠ gz) from ⟨by rw [hgz]; exact HS1.out.size, fun e => by have := HX1.out.b.lt; omega, fun j e e2 => by have := HX1.out.s.lt j e; omega⟩)
        have EM := Lib.hid (show ∀ (act : Act) (o : Oper) (x : Operand), o.op = .makeSlice 36 x x → act.eval x = .int .i64 256 → (execOp act.eval o).run Try.prog w1 = .ok (.value (.slice (some ⟨gz, 0, none⟩) 256 256)) w2 from fun act o x ho hx => by rw [hgz, hw2]; exact exec_make256 x w1 ho hx)
        have EB := Lib.hid (show ∀ (act : Act) (o : Oper) (x : Operand), o.op = .buildSlice 47 1 #[(0, x)] → act.eval x = .string (str (List.replicate 256 0)) → (execOp act.eval o).run Try.prog w2 = .ok (.value (.slice (some ⟨g3, 0, none⟩) 1 1)) w3 from fun act o x ho hx => by rw [hg3, hw3]; exact exec_one x _ w2 ho hx)
        have HS2 := Lib.hid (HS1.out.trans HK12.out (fun _ e => e.elim))
        have HS3 := Lib.hid (HS2.out.trans HK23.out (fun _ e => e.elim))
        clear hgz hw2 hg3 hw3
        have c0 : w1.cell? ⟨g, 1, none⟩ = some (.slice S k cS) := HX1.out.b.cell 1
        have c2 : w2.cell? ⟨g, 1, none⟩ = some (.slice S k cS) := (HX1.out.b.keep HK12.out (fun e => e)).cell 1
        have c3 : w3.cell? ⟨g, 1, none⟩ = some (.slice S k cS) := ((HX1.out.b.keep HK12.out (fun e => e)).keep HK23.out (fun e => e)).cell 1
        refine reg_take (v := .pointer (some ⟨g, 0, none⟩)) 0 (some 27) rfl rfl (by kernel_rfl) (by kernel_rfl) (by kernel_rfl) (by rfl) HS1.out (fun w hw => by go_simp) ?_
        simp only [Act.put, List.setIfInBounds_toArray, List.set_cons_zero, List.set_cons_succ]
        refine reg_take (v := .pointer (some ⟨g, 0, none⟩)) 1 (some 28) rfl rfl (by kernel_rfl) (by kernel_rfl) (by kernel_rfl) (by rfl) HS1.out (fun w hw => by go_simp) ?_
        simp only [Act.put, List.setIfInBounds_toArray, List.set_cons_zero, List.set_cons_succ]
        refine reg_take (v := .pointer (some ⟨g, 0, none⟩)) 2 (some 29) rfl rfl (by kernel_rfl) (by kernel_rfl) (by kernel_rfl) (by rfl) HS1.out (fun w hw => by go_simp) ?_
        simp only [Act.put, List.setIfInBounds_toArray, List.set_cons_zero, List.set_cons_succ]
        refine reg_take (v := .pointer (some ⟨g, 1, none⟩)) 3 (some 30) rfl rfl (by kernel_rfl) (by kernel_rfl) (by kernel_rfl) (by rfl) HS1.out (fun w hw => by go_simp) ?_
        simp only [Act.put, List.setIfInBounds_toArray, List.set_cons_zero, List.set_cons_succ]
        refine reg_stepOr (v := .slice S k cS) (wi := w1) (u := .slice (some ⟨gz, 0, none⟩) 256 256) (wj := w2) 4 5 (some 31) (some 32) rfl rfl rfl rfl (by kernel_rfl) (by rfl) (by rfl) (by clear c2 c3; go_simp) (EM.out _ _ _ rfl rfl) HS1.out HS2.out (fun _ => ?_) (fun _ => ?_)
        case' refine_1 =>
          simp only [Act.put, List.setIfInBounds_toArray, List.set_cons_zero, List.set_cons_succ]
          refine reg_step 5 (some 32) rfl rfl (by kernel_rfl) (by rfl) (EM.out _ _ _ rfl rfl) HS2.out (fun _ => ?_)
          simp only [Act.put, List.setIfInBounds_toArray, List.set_cons_zero, List.set_cons_succ]
          refine reg_more (fun w' => Kp nob w w' ∧ Blk w' gz 5 (bvs (List.replicate 256 0))) (fun w' h => h.1) ?_
          have HT2 := Lib.hid (And.intro HS2.out HRW.out)
          have HT3 := Lib.hid (And.intro HS3.out (HRW.out.keep HK23.out (fun e => e)))
          refine reg_bytesStr 6 (some 33) 36 9 5 (.tmp 32) rfl rfl rfl (by kernel_rfl) (by kernel_rfl) (by kernel_rfl) (by rfl) HT2.out u8_under (by kernel_rfl) u8_string (some ⟨gz, 0, none⟩) 256 256 (List.replicate 256 0) (by rw [List.length_replicate]) rfl (fun w h => h.2.row) ?_
          simp only [Act.put, List.setIfInBounds_toArray, List.set_cons_zero, List.set_cons_succ]
          refine reg_step 7 (some 34) rfl rfl (by kernel_rfl) (by rfl) (EB.out _ _ _ rfl rfl) HT3.out (fun _ => ?_)
        case' refine_2 =>
          simp only [Act.put, List.setIfInBounds_toArray, List.set_cons_zero, List.set_cons_succ]
          refine reg_more (fun w' => Kp nob w w' ∧ Blk w' gz 5 (bvs (List.replicate 256 0))) (fun w' h => h.1) ?_
          have HT2 := Lib.hid (And.intro HS2.out HRW.out)
          have HT3 := Lib.hid (And.intro HS3.out (HRW.out.keep HK23.out (fun e => e)))
          refine reg_bytesStr 6 (some 33) 36 9 5 (.tmp 32) rfl rfl rfl (by kernel_rfl) (by kernel_rfl) (by kernel_rfl) (by rfl) HT2.out u8_under (by kernel_rfl) u8_string (some ⟨gz, 0, none⟩) 256 256 (List.replicate 256 0) (by rw [List.length_replicate]) rfl (fun w h => h.2.row) ?_
          simp only [Act.put, List.setIfInBounds_toArray, List.set_cons_zero, List.set_cons_succ]
          refine reg_stepOr (v := .slice S k cS) (wi := w2) (u := .slice (some ⟨g3, 0, none⟩) 1 1) (wj := w3) 4 7 (some 31) (some 34) rfl rfl rfl rfl (by kernel_rfl) (by rfl) (by rfl) (by clear c0 c3; go_simp) (EB.out _ _ _ rfl rfl) HT2.out HT3.out (fun _ => ?_) (fun _ => ?_)
        case' refine_2.refine_1 =>
          simp only [Act.put, List.setIfInBounds_toArray, List.set_cons_zero, List.set_cons_succ]
          refine reg_step 7 (some 34) rfl rfl (by kernel_rfl) (by rfl) (EB.out _ _ _ rfl rfl) HT3.out (fun _ => ?_)
        case' refine_2.refine_2 =>
          simp only [Act.put, List.setIfInBounds_toArray, List.set_cons_zero, List.set_cons_succ]
          refine reg_step (w' := w3) (v := .slice S k cS) 4 (some 31) rfl rfl (by kernel_rfl) (by rfl) (by clear c0 c2; go_simp) HT3.out (fun _ => ?_)
        all_goals
          simp only [Act.put, List.setIfInBounds_toArray, List.set_cons_zero, List.set_cons_succ]
          clear c0 c2 c3
          have HO3 := Lib.hid ((HX1.out.keep0 HK12.out).keep0 HK23.out)
          refine reg_appK 8 (some 35) (.tmp 31) (.tmp 34) 47 rfl rfl rfl (by kernel_rfl) (by rfl) 1 (by decide) 9 i0 _ 16 str_under HI.out.1 HI.out.2.1 HI.out.2.2.1 HI.out.2.2.2 rfl S k cS _ rfl HO3.out.s ⟨g3, 0, none⟩ 1 1 [.string (str (List.replicate 256 0))] rfl rfl HRS.out (by intro u hu; rw [List.mem_singleton.1 hu]; rfl) (by have := HK.out; omega) (by have := HK.out; omega) ?_
          intro A2 c2 w4 o4 g4 a4
          have HX4 := Lib.hid (HO3.out.app1 A2 c2 w4 o4 g4 a4)
          have HS4 := Lib.hid (show Kp nob w w4 ∧ Blk w4 gz 5 (bvs (List.replicate 256 0)) from ⟨HX4.out.1, HT3.out.2.keep ((Kp.refl (fun i => ab S = some i) w3).grown g4 (fun k e => .inl e)) (fun e => HGZ.out.2.2 gz e rfl)⟩)
          clear o4 g4 a4
          refine ⟨HS4.out, fun _ => ?_⟩
          simp only [Act.put, List.setIfInBounds_toArray, List.set_cons_zero, List.set_cons_succ]
          refine reg_take (v := .pointer (some ⟨g, 0, none⟩)) 9 (some 36) rfl rfl (by kernel_rfl) (by kernel_rfl) (by kernel_rfl) (by rfl) HS4.out (fun w hw => by go_simp) ?_
          simp only [Act.put, List.setIfInBounds_toArray, List.set_cons_zero, List.set_cons_succ]
          refine reg_take (v := .pointer (some ⟨g, 1, none⟩)) 10 (some 37) rfl rfl (by kernel_rfl) (by kernel_rfl) (by kernel_rfl) (by rfl) HS4.out (fun w hw => by go_simp) ?_
          simp only [Act.put, List.setIfInBounds_toArray, List.set_cons_zero, List.set_cons_succ]
          have c4 := HX4.out.2.1.cell 1
          have f4 := HX4.out.2.1.frozen 1
          have HS5 := Lib.hid (show Kp nob w (w4.setCell ⟨g, 1, none⟩ (.slice A2 (k + 1) c2)) ∧ Blk (w4.setCell ⟨g, 1, none⟩ (.slice A2 (k + 1) c2)) gz 5 (bvs (List.replicate 256 0)) from ⟨HS4.out.1.setCell (p := ⟨g, 1, none⟩) (.inr HX1.out.g) _, HS4.out.2.far (p := ⟨g, 1, none⟩) HGZ.out.2.1 _⟩)
          refine reg_mute (w' := w4.setCell ⟨g, 1, none⟩ (.slice A2 (k + 1) c2)) 11 none rfl rfl (by kernel_rfl) (by rfl) (by go_simp) HS5.out (fun _ => ?_)
          simp only [Act.put, List.setIfInBounds_toArray, List.set_cons_zero, List.set_cons_succ]
          clear c4 f4
          refine reg_end (by kernel_rfl) ?_
          have HY := Lib.hid HX4.out.2.2
          have e5 := HE5.out
          go_wp2
          refine ⟨⟨k1', N, A2, cN, c2, by rw [HK1.out]; exact HLT.out, rfl, by rw [HK1.out]; exact HY.out⟩, by have := HK1.out; have := HLT.out; simp [intOf]; omega⟩
    · obtain rfl : k = q := by omega
      obtain ⟨F, hF1, hF2⟩ := HX.out.done
      have HF := Lib.hid (And.intro hF1 hF2)
      clear hF1 hF2 hlt hk
      by_cases hn : (k : Int) < n
      · have d1 : decide ((k : Int) < n) = true := decide_eq_true hn
        have d2 : decide ((k : Int) < 4096) = false := decide_eq_false (by have := HQ.out; omega)
        have d2n : decide (k < 4096) = false := decide_eq_false (by have := HQ.out; omega)
        clear hn
        go_wp2
        go_ret
        exact ⟨g, F, N, S, cN, cS, rfl, HF.out.1, HF.out.2, HX.out.k⟩
      · have d1 : decide ((k : Int) < n) = false := decide_eq_false hn
        clear hn
        go_wp2
        go_ret
        exact ⟨g, F, N, S, cN, cS, rfl, HF.out.1, HF.out.2, HX.out.k⟩
end Go.Proofs.Ytndkmfflpphoiaa.Disk
