/- The document's own disk in memory; contracts of its small functions. -/
import Derived.Test.YtchdobneipfghaaZCodeN0
import Derived.Test.YtchdobneipfghaaZG00
import Derived.Test.YtchdobneipfghaaZG01
import Derived.Test.YtchdobneipfghaaZG02
import Derived.BigQuiet
import Derived.Deep.QuietTactic
namespace Go.Proofs.Ytchdobneipfghaa.Disk
set_option linter.unusedVariables false
set_option linter.unusedSimpArgs false
open Go Go.RowKit Kit

theorem str_append2 (l m : List UInt8) : str l ++ str m = str (l ++ m) := by
  apply ByteArray.ext; simp [str]
def sv (l : List UInt8) : Value := .string (str l)
def svs (ls : List (List UInt8)) : List Value := ls.map sv
theorem svs_length (ls : List (List UInt8)) : (svs ls).length = ls.length := by simp [svs]
theorem svs_at (ls : List (List UInt8)) (i : Nat) (h : i < ls.length) : (svs ls)[i]? = some (.string (str ls[i])) := by simp [svs, sv, h]
theorem svs_set (ls : List (List UInt8)) (i : Nat) (l : List UInt8) : (svs ls).set i (.string (str l)) = svs (ls.set i l) := by
  simp [svs, List.map_set, sv]
theorem svs_one (ls : List (List UInt8)) : ∀ u ∈ svs ls, u.oneCell' = true := by
  intro u hu
  simp only [svs, List.mem_map] at hu
  obtain ⟨x, _, rfl⟩ := hu; rfl
def wc (x : Nat × List UInt8) : List Value := [.int .i64 (x.1 : Int), .string (str x.2)]
def wcs (xs : List (Nat × List UInt8)) : List Value := xs.flatMap wc
/-- The document's disk at g, with all that it has. -/
structure Dd (w : World) (g : Nat) (F : Nat → Prop) (N S W : Option Addr) (cN cS cW : Nat) (D : Dk) : Prop where
  b : Blk w g 42 [.slice N D.now.length cN, .slice S D.safe.length cS, .slice W D.waits.length cW, .bool D.off, .int .i64 (D.acts : Int), .int .i64 (D.fuse : Int), .int .u64 (D.keep : Int)]
  now : Row w N (svs D.now)
  safe : Row w S (svs D.safe)
  waits : Row w W (wcs D.waits)
  caps : D.now.length ≤ cN ∧ D.safe.length ≤ cS ∧ D.waits.length ≤ cW
  fn : ∀ k, ab N = some k → F k ∧ k ≠ g
  fs : ∀ k, ab S = some k → F k ∧ k ≠ g
  fw : ∀ k, ab W = some k → F k ∧ k ≠ g
  g : F g
  lt : ∀ k, F k → k < w.heap.size
theorem Dd.keep {w w2 : World} {g : Nat} {F G : Nat → Prop} {N S W : Option Addr} {cN cS cW : Nat} {D : Dk} (h : Dd w g F N S W cN cS cW D) (k : Kp G w w2) (hF : ∀ i, F i → ¬ G i) : Dd w2 g F N S W cN cS cW D :=
  ⟨h.b.keep k (hF _ h.g), h.now.keep k (fun j e => hF j (h.fn j e).1), h.safe.keep k (fun j e => hF j (h.fs j e).1), h.waits.keep k (fun j e => hF j (h.fw j e).1), h.caps, h.fn, h.fs, h.fw, h.g, fun j e => Nat.lt_of_lt_of_le (h.lt j e) k.size⟩
theorem Dd.keep0 {w w2 : World} {g : Nat} {F : Nat → Prop} {N S W : Option Addr} {cN cS cW : Nat} {D : Dk} (h : Dd w g F N S W cN cS cW D) (k : Kp nob w w2) : Dd w2 g F N S W cN cS cW D := h.keep k (fun _ _ e => e)

theorem made_zero (n : Nat) : madeCells #[(.int .u8 0 : Value)] n = (bvs (List.replicate n 0)).toArray := by
  apply Array.ext
  · simp [size_madeCells, bvs]
  · intro i h1 h2
    simp [madeCells, bvs, bv, Nat.mod_one]
theorem u8_info1 : (Try.prog.info? 5).map (fun i => (i.zero, i.size, i.bytes)) = some (some (.int .u8 0), 1, 1) := by kernel_rfl
theorem make_any (n : Nat) (hn : n ≤ 256) (w : World) : (Instr.makeSlice 45 (.int .i64 (n : Int)) (.int .i64 (n : Int))).run Try.prog w = .ok (.slice (some ⟨w.heap.size, 0, none⟩) n n) (w.alloc (.cells (bvs (List.replicate n 0)).toArray 5)) := by
  rw [← made_zero]
  exact run_make_row' 45 5 (.int .u8 0) 1 u8_under u8_info1 rfl .i64 .i64 n (by omega) (by omega) w
set_option maxHeartbeats 1000000 in
theorem fFull (l : List UInt8) (w : World) (hl : l.length ≤ 256) :
    Calls Try.prog 35 #[.string (str l)] w fun e w' => e = .returned (.string (str (full l))) ∧ Kp nob w w' := by
  obtain ⟨n, hn⟩ : ∃ n, n = 256 - l.length := ⟨_, rfl⟩
  have e1 : IntKind.i64.wrap (256 - (l.length : Int)) = (n : Int) := by rw [IntWalk.i64_in _ (by omega)]; omega
  have HF := Lib.hid (show str l ++ str (List.replicate n 0) = str (full l) by rw [str_append2, full, hn])
  have hm := make_any n (by omega)
  have hs := str_size l
  have hc := fun w1 : World => conv_row (w1.alloc (.cells (bvs (List.replicate n 0)).toArray 5)) (some ⟨w1.heap.size, 0, none⟩) n n (List.replicate n 0) (by simp) (row_new w1 _ _)
  have hz : (str l).size + (str (List.replicate n 0)).size ≤ 9223372036854775807 := by rw [str_size, str_size, List.length_replicate]; omega
  clear hn hl
  go_enter Try.func35, Try.ntmps35
  go_wp2
  go_ret
  rw [← HF.out]
  exact ⟨rfl, (Kp.refl nob w).alloc _⟩
theorem str_under : Try.prog.underlying 39 = some (.slice 9) := by kernel_rfl
theorem str_info : (Try.prog.info? 9).map (fun i => (i.zero, i.size, i.bytes)) = some (some (.string ⟨#[]⟩), 1, 16) := by kernel_rfl
set_option maxHeartbeats 1000000 in
theorem fput (ls : List (List UInt8)) (A : Option Addr) (n c i : Nat) (s : List UInt8) (w : World) (hr : Row w A (svs ls)) (hn : ls.length = n) (hi : i < n) (hn2 : n ≤ 100000) :
    Calls Try.prog 31 #[.slice A n c, .int .i64 i, .string (str s)] w fun e w' => ∃ A' c', e = .returned (.slice A' n c') ∧ Row w' A' (svs (ls.set i s)) ∧ n ≤ c' ∧ (∀ k, ab A' = some k → w.heap.size ≤ k ∧ k < w'.heap.size) ∧ Kp nob w w' := by
  obtain ⟨i0, h0, hz0, hz1, hz2⟩ := info_parts3 str_info
  have hA : A = none → c = 0 := fun e => by
    exfalso
    subst e
    rcases hr with h | ⟨b, o, h, _⟩
    · have := congrArg List.length h; rw [svs_length, hn] at this; simp only [List.length_nil] at this; omega
    · cases h
  have ho : Own 9 (w.alloc (.cells #[] 9)) (some ⟨w.heap.size, 0, none⟩) 0 0 [] := World.ownsRow_made w #[] 0 (Nat.zero_le _) (by simp [maxLen]) rfl
  have hr1 := hr.alloc (.cells #[] 9)
  have HN := Lib.hid hn; have HI := Lib.hid hi
  go_enter Try.func31, Try.ntmps31
  go_wp2_with (at_builtin; refine wpList_appR _ rfl (.tmp 8) (.tmp 9) 39 rfl 9 i0 (.string ⟨#[]⟩) 16 str_under h0 hz0 hz1 hz2 rfl _ 0 0 [] rfl ho A n c (svs ls) rfl hA (by simp [svs_length, hn]) hr1 (svs_one ls) (by omega) (by omega) ?_)
  intro M cM w2 hM hgM habM
  have s2 : Kp nob w w2 := ((Kp.refl nob w).alloc (.cells #[] 9)).grown hgM (fun k e => .inr (by cases e; exact Nat.le_refl _))
  have nM : ∀ k, ab M = some k → w.heap.size ≤ k := by
    intro k e
    rcases habM with h | h <;> rw [h] at e <;> cases e
    · exact Nat.le_refl _
    · exact Nat.le_succ _
  obtain ⟨bm, rfl, hbm, hcm, hfm, hsm⟩ := hM.at_ (i := i) (by omega)
  have hcm' : w2.cell? ⟨bm, i, none⟩ = some (.string (str (ls[i]'(by omega)))) := by rw [hcm]; simp [svs, sv]
  have HM := Lib.hid hM; have HS := Lib.hid s2; have NM := Lib.hid nM
  clear hcm ho hr1 hgM habM hM s2 nM hr h0 hz0 hz1 hz2
  go_wp2
  go_ret
  refine ⟨_, _, rfl, ?_, ?_, fun k e => ⟨NM.out k e, by have := HM.out.lt k e; simpa using this⟩, HS.out.setCell (p := ⟨bm, i, none⟩) (.inr (NM.out bm rfl)) _⟩
  · have := (HM.out.set i (.string (str s))).row
    rw [svs_set] at this
    exact this
  · have := HM.out.cap.1; omega
end Go.Proofs.Ytchdobneipfghaa.Disk
