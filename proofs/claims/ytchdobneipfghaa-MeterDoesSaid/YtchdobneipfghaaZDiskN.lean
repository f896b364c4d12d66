/- The document's own disk: a new one. -/
import Derived.Test.YtchdobneipfghaaZDiskL
import Derived.Test.YtchdobneipfghaaZG01
import Derived.Test.YtchdobneipfghaaZG02
import Derived.Deep.Cut
import Derived.Deep.CutRange
namespace Go.Proofs.Ytchdobneipfghaa.Disk
set_option linter.unusedVariables false
set_option linter.unusedSimpArgs false
open Go Go.RowKit Kit

theorem exec_make256 {act : Act} {o : Oper} (x : Operand) (w : World) (ho : o.op = .makeSlice 45 x x) (hx : act.eval x = .int .i64 256) :
    (execOp act.eval o).run Try.prog w = .ok (.value (.slice (some ⟨w.heap.size, 0, none⟩) 256 256)) (w.alloc (.cells (bvs (List.replicate 256 0)).toArray 5)) := by
  have h : (Instr.makeSlice 45 (.int .i64 256) (.int .i64 256)).run Try.prog w = _ := make_any 256 (by decide) w
  unfold execOp
  simp only [ho, hx, Sem.run_bind, h, Result.andThen_ok, Sem.run_pure]
theorem one_build (s : ByteArray) (w : World) : (Instr.buildSlice 39 1 #[(0, .string s)]).run Try.prog w = .ok (.slice (some ⟨w.heap.size, 0, none⟩) 1 1) (w.alloc (.cells #[.string s] 9)) := by kernel_rfl
theorem exec_one {act : Act} {o : Oper} (x : Operand) (s : ByteArray) (w : World) (ho : o.op = .buildSlice 39 1 #[(0, x)]) (hx : act.eval x = .string s) :
    (execOp act.eval o).run Try.prog w = .ok (.value (.slice (some ⟨w.heap.size, 0, none⟩) 1 1)) (w.alloc (.cells #[.string s] 9)) := by
  have h := one_build s w
  unfold execOp
  simp only [ho, hx, Sem.run_bind, List.map_toArray, List.map_cons, List.map_nil, h, Result.andThen_ok, Sem.run_pure]
/-- The sectors that were made so far. -/
def zrow (k : Nat) : List Value := List.replicate k (.string (str (List.replicate 256 0)))
theorem zrow_snoc (k : Nat) : zrow k ++ [.string (str (List.replicate 256 0))] = zrow (k + 1) := (List.replicate_succ' (n := k) (a := Value.string (str (List.replicate 256 0)))).symm
theorem zrow_svs (k : Nat) : zrow k = svs (List.replicate k (full [])) := by rw [zrow, svs, List.map_replicate]; rfl
/-- A new disk at g, whose rows have n and s sectors so far. -/
structure Nw (w wr : World) (g' k' l : Nat) (N S : Option Addr) (cN cS : Nat) : Prop where
  b : Blk wr g' 42 [.slice N k' cN, .slice S l cS, .slice none 0 0, .bool false, .int .i64 0, .int .i64 0, .int .u64 0]
  n : OwnK 1 9 wr N k' cN (zrow k')
  s : OwnK 1 9 wr S l cS (zrow l)
  fn : ∀ j, ab N = some j → w.heap.size ≤ j ∧ j ≠ g'
  fs : ∀ j, ab S = some j → w.heap.size ≤ j ∧ j ≠ g'
  ne : ∀ j, ab N = some j → ab S ≠ some j
  g : w.heap.size ≤ g'
  k : Kp nob w wr
theorem Nw.keep0 {w wr w2 : World} {g k l : Nat} {N S : Option Addr} {cN cS : Nat} (h : Nw w wr g k l N S cN cS) (hk : Kp nob wr w2) : Nw w w2 g k l N S cN cS :=
  ⟨h.b.keep hk (fun e => e), h.n.keep hk (fun _ _ e => e), h.s.keep hk (fun _ _ e => e), h.fn, h.fs, h.ne, h.g, h.k.trans hk (fun _ e => e.elim)⟩
theorem Nw.app0 {w wr : World} {g k l : Nat} {N S : Option Addr} {cN cS : Nat} (h : Nw w wr g k l N S cN cS) (A2 : Option Addr) (c2 : Nat) (w4 : World) (o4 : OwnK 1 9 w4 A2 (k + 1) c2 (zrow k ++ [.string (str (List.replicate 256 0))])) (g4 : wr.grownBy w4 (ab N)) (a4 : ab A2 = ab N ∨ ab A2 = some wr.heap.size) :
    Kp nob w w4 ∧ Blk w4 g 42 [.slice N k cN, .slice S l cS, .slice none 0 0, .bool false, .int .i64 0, .int .i64 0, .int .u64 0] ∧ Nw w (w4.setCell ⟨g, 0, none⟩ (.slice A2 (k + 1) c2)) g (k + 1) l A2 S c2 cS := by
  have hF : Kp (fun i => ab N = some i) wr w4 := (Kp.refl _ wr).grown g4 (fun k e => .inl e)
  have k4 : Kp nob w w4 := h.k.since hF (fun i e => (h.fn i e).1)
  have b4 := h.b.keep hF (fun e => (h.fn g e).2 rfl)
  have ks : Kp (oneB g) w4 (w4.setCell ⟨g, 0, none⟩ (.slice A2 (k + 1) c2)) := (Kp.refl (oneB g) w4).setCell (p := ⟨g, 0, none⟩) (.inl rfl) _
  have fa : ∀ j, ab A2 = some j → w.heap.size ≤ j ∧ j ≠ g ∧ ab S ≠ some j := by
    intro j e
    rcases a4 with h1 | h1
    · rw [h1] at e; exact ⟨(h.fn j e).1, (h.fn j e).2, h.ne j e⟩
    · rw [h1] at e; cases e
      have hg := h.b.lt
      exact ⟨h.k.size, fun e => by omega, fun e => by have := h.s.lt _ e; omega⟩
  refine ⟨k4, b4, b4.set_ 0 _, ?_, ?_, fun j e => ⟨(fa j e).1, (fa j e).2.1⟩, h.fs, fun j e => (fa j e).2.2, h.g, k4.since ks (fun i e => by have e : i = g := e; rw [e]; exact h.g)⟩
  · rw [← zrow_snoc]; exact o4.keep ks (fun j e => (fa j e).2.1)
  · exact (h.s.keep hF (fun j e e2 => h.ne j e2 e)).keep ks (fun j e => (h.fs j e).2)
theorem Nw.app1 {w wr : World} {g k l : Nat} {N S : Option Addr} {cN cS : Nat} (h : Nw w wr g k l N S cN cS) (A2 : Option Addr) (c2 : Nat) (w4 : World) (o4 : OwnK 1 9 w4 A2 (l + 1) c2 (zrow l ++ [.string (str (List.replicate 256 0))])) (g4 : wr.grownBy w4 (ab S)) (a4 : ab A2 = ab S ∨ ab A2 = some wr.heap.size) :
    Kp nob w w4 ∧ Blk w4 g 42 [.slice N k cN, .slice S l cS, .slice none 0 0, .bool false, .int .i64 0, .int .i64 0, .int .u64 0] ∧ Nw w (w4.setCell ⟨g, 1, none⟩ (.slice A2 (l + 1) c2)) g k (l + 1) N A2 cN c2 := by
  have hF : Kp (fun i => ab S = some i) wr w4 := (Kp.refl _ wr).grown g4 (fun k e => .inl e)
  have k4 : Kp nob w w4 := h.k.since hF (fun i e => (h.fs i e).1)
  have b4 := h.b.keep hF (fun e => (h.fs g e).2 rfl)
  have ks : Kp (oneB g) w4 (w4.setCell ⟨g, 1, none⟩ (.slice A2 (l + 1) c2)) := (Kp.refl (oneB g) w4).setCell (p := ⟨g, 1, none⟩) (.inl rfl) _
  have fa : ∀ j, ab A2 = some j → w.heap.size ≤ j ∧ j ≠ g ∧ ab N ≠ some j := by
    intro j e
    rcases a4 with h1 | h1
    · rw [h1] at e; exact ⟨(h.fs j e).1, (h.fs j e).2, fun e2 => h.ne j e2 e⟩
    · rw [h1] at e; cases e
      have hg := h.b.lt
      exact ⟨h.k.size, fun e => by omega, fun e => by have := h.n.lt _ e; omega⟩
  refine ⟨k4, b4, b4.set_ 1 _, ?_, ?_, h.fn, fun j e => ⟨(fa j e).1, (fa j e).2.1⟩, fun j e e2 => (fa j e2).2.2 e, h.g, k4.since ks (fun i e => by have e : i = g := e; rw [e]; exact h.g)⟩
  · exact (h.n.keep hF (fun j e e2 => h.ne j e e2)).keep ks (fun j e => (h.fn j e).2)
  · rw [← zrow_snoc]; exact o4.keep ks (fun j e => (fa j e).2.1)
theorem Nw.done {w wr : World} {g k : Nat} {N S : Option Addr} {cN cS : Nat} (h : Nw w wr g k k N S cN cS) : ∃ F, Dd wr g F N S none cN cS 0 (new k) ∧ (∀ j, F j → w.heap.size ≤ j) := by
  refine ⟨fun j => j = g ∨ ab N = some j ∨ ab S = some j, ⟨?_, ?_, ?_, Row.nil _ _, ⟨?_, ?_, Nat.le_refl _⟩, fun j e => ⟨.inr (.inl e), (h.fn j e).2⟩, fun j e => ⟨.inr (.inr e), (h.fs j e).2⟩, fun j e => (by cases e), .inl rfl, ?_⟩, ?_⟩
  · show Blk _ _ _ [.slice N (List.replicate k (full [])).length cN, .slice S (List.replicate k (full [])).length cS, _, _, _, _, _]
    rw [List.length_replicate]; exact h.b
  · have := h.n.row; rw [zrow_svs] at this; exact this
  · have := h.s.row; rw [zrow_svs] at this; exact this
  · show (List.replicate k (full [])).length ≤ cN; rw [List.length_replicate]; exact h.n.cap.1
  · show (List.replicate k (full [])).length ≤ cS; rw [List.length_replicate]; exact h.s.cap.1
  · rintro j (rfl | e | e)
    · exact h.b.lt
    · exact h.n.lt j e
    · exact h.s.lt j e
  · rintro j (rfl | e | e)
    · exact h.g
    · exact (h.fn j e).1
    · exact (h.fs j e).1
/-- How many sectors a new disk of the document has. -/
def clampF (n : Int) : Nat := min n.toNat 4096
set_option maxHeartbeats 8000000 in
set_option maxRecDepth 100000 in
theorem fNew (n : Int) (w : World) :
    Calls Try.prog 9 #[.int .i64 n] w fun e w' => ∃ g F N S cN cS, e = .returned (.pointer (some ⟨g, 0, none⟩)) ∧ Dd w' g F N S none cN cS 0 (new (clampF n)) ∧ (∀ j, F j → w.heap.size ≤ j) ∧ Kp nob w w' := by
  obtain ⟨i0, hi0, hz0, hz1, hz2⟩ := info_parts3 str_info
  have HI := Lib.hid (And.intro hi0 (And.intro hz0 (And.intro hz1 hz2)))
  obtain ⟨q, hq⟩ : ∃ q, q = clampF n := ⟨_, rfl⟩
  have HQ := Lib.hid (show q = min n.toNat 4096 from hq)
  rw [← hq]
  clear hq hi0 hz0 hz1 hz2
  go_enter Try.func9, Try.ntmps9
  go_upto_region 2 with fail
  obtain ⟨g, hg⟩ : ∃ g, g = w.heap.size := ⟨_, rfl⟩
  have H0 := Lib.hid (show Nw w (w.alloc (.cells #[.slice none 0 0, .slice none 0 0, .slice none 0 0, .bool false, .int .i64 0, .int .i64 0, .int .u64 0] 42)) g 0 0 none none 0 0 from
    ⟨Blk.new' hg rfl, OwnK.nil _ _ _, OwnK.nil _ _ _, fun j e => (by cases e), fun j e => (by cases e), fun j e => (by cases e), Nat.le_of_eq hg.symm, (Kp.refl nob w).alloc _⟩)
  rw [← hg]
  generalize w.alloc (.cells #[.slice none 0 0, .slice none 0 0, .slice none 0 0, .bool false, .int .i64 0, .int .i64 0, .int .u64 0] 42) = wa at *
  clear hg
  go_wp2
  go_loopw [4] (fun vi wr => ∃ (k : Nat) (N S : Option Addr) (cN cS : Nat), k ≤ q ∧ vi = .int .i64 k ∧ Nw w wr g k k N S cN cS)
    (fun vi _ => q - (intOf vi).toNat)
  case atStart => exact ⟨0, none, none, 0, 0, Nat.zero_le _, rfl, H0.out⟩
  case round =>
    obtain ⟨k, N, S, cN, cS, hk, rfl, hx⟩ := hrel
    have HX := Lib.hid hx
    clear hx H0
    have HK := Lib.hid (show k ≤ 4096 by have := HQ.out; omega)
    by_cases hlt : k < q
    · have d1 : decide ((k : Int) < n) = true := decide_eq_true (by have := HQ.out; omega)
      have d2 : decide ((k : Int) < 4096) = true := decide_eq_true (by have := HQ.out; omega)
      have d2n : decide (k < 4096) = true := decide_eq_true (by have := HQ.out; omega)
      obtain ⟨k1', hk1⟩ : ∃ k1, k1 = k + 1 := ⟨_, rfl⟩
      have HE5 := Lib.hid (show IntKind.i64.wrap ((k : Int) + 1) = (k1' : Int) by have := HK.out; rw [IntWalk.i64_in _ (by omega)]; omega)
      have HK1 := Lib.hid hk1; have HLT := Lib.hid hlt
      clear hlt hk hk1
      go_upto_region 5 with fail
      clear d1 d2 d2n
      go_cut [] from 16 to 26 (fun wx => ∃ (A2 : Option Addr) (c2 : Nat), Nw w wx g (k + 1) k A2 S c2 cS)
      case first =>
        have HA1 := Lib.hid ((Kp.refl nob wr).drew)
        have HS1 := Lib.hid (HX.out.k.trans HA1.out (fun _ e => e.elim))
        have HX1 := Lib.hid (HX.out.keep0 HA1.out)
        refine reg_begin (fun w' => Kp nob w w') (by kernel_rfl) HS1.out (fun _ => ?_)
        generalize wr.drew = w1 at *
        obtain ⟨gz, hgz⟩ : ∃ q, q = w1.heap.size := ⟨_, rfl⟩
        obtain ⟨w2, hw2⟩ : ∃ w2, w2 = w1.alloc (.cells (bvs (List.replicate 256 0)).toArray 5) := ⟨_, rfl⟩
        obtain ⟨g3, hg3⟩ : ∃ q, q = w2.heap.size := ⟨_, rfl⟩
        obtain ⟨w3, hw3⟩ : ∃ w3, w3 = w2.alloc (.cells #[.string (str (List.replicate 256 0))] 9) := ⟨_, rfl⟩
        have HK12 := Lib.hid (show Kp nob w1 w2 by rw [hw2]; exact (Kp.refl nob w1).alloc _)
        have HK23 := Lib.hid (show Kp nob w2 w3 by rw [hw3]; exact (Kp.refl nob w2).alloc _)
        have HRW := Lib.hid (show Blk w2 gz 5 (bvs (List.replicate 256 0)) by rw [hgz, hw2]; exact Blk.new w1 _ _)
        have HRS := Lib.hid (show Row w3 (some ⟨g3, 0, none⟩) [.string (str (List.replicate 256 0))] by rw [hg3, hw3]; exact row_one w2 _ _)
        have HGZ := Lib.hid (show w.heap.size ≤ gz ∧ gz ≠ g ∧ (∀ j, ab N = some j → j ≠ gz) from ⟨by rw [hgz]; exact HS1.out.size, fun e => by have := HX1.out.b.lt; omega, fun j e e2 => by have := HX1.out.n.lt j e; omega⟩)
        have EM := Lib.hid (show ∀ (act : Act) (o : Oper) (x : Operand), o.op = .makeSlice 45 x x → act.eval x = .int .i64 256 → (execOp act.eval o).run Try.prog w1 = .ok (.value (.slice (some ⟨gz, 0, none⟩) 256 256)) w2 from fun act o x ho hx => by rw [hgz, hw2]; exact exec_make256 x w1 ho hx)
        have EB := Lib.hid (show ∀ (act : Act) (o : Oper) (x : Operand), o.op = .buildSlice 39 1 #[(0, x)] → act.eval x = .string (str (List.replicate 256 0)) → (execOp act.eval o).run Try.prog w2 = .ok (.value (.slice (some ⟨g3, 0, none⟩) 1 1)) w3 from fun act o x ho hx => by rw [hg3, hw3]; exact exec_one x _ w2 ho hx)
        have HS2 := Lib.hid (HS1.out.trans HK12.out (fun _ e => e.elim))
        have HS3 := Lib.hid (HS2.out.trans HK23.out (fun _ e => e.elim))
        clear hgz hw2 hg3 hw3
        have c0 : w1.cell? ⟨g, 0, none⟩ = some (.slice N k cN) := HX1.out.b.cell 0
        have c2 : w2.cell? ⟨g, 0, none⟩ = some (.slice N k cN) := (HX1.out.b.keep HK12.out (fun e => e)).cell 0
        have c3 : w3.cell? ⟨g, 0, none⟩ = some (.slice N k cN) := ((HX1.out.b.keep HK12.out (fun e => e)).keep HK23.out (fun e => e)).cell 0
        refine reg_take (v := .pointer (some ⟨g, 0, none⟩)) 0 (some 16) rfl rfl (by kernel_rfl) (by kernel_rfl) (by kernel_rfl) (by rfl) HS1.out (fun w hw => by go_simp) ?_
        simp only [Act.put, List.setIfInBounds_toArray, List.set_cons_zero, List.set_cons_succ]
        refine reg_take (v := .pointer (some ⟨g, 0, none⟩)) 1 (some 17) rfl rfl (by kernel_rfl) (by kernel_rfl) (by kernel_rfl) (by rfl) HS1.out (fun w hw => by go_simp) ?_
        simp only [Act.put, List.setIfInBounds_toArray, List.set_cons_zero, List.set_cons_succ]
        refine reg_take (v := .pointer (some ⟨g, 0, none⟩)) 2 (some 18) rfl rfl (by kernel_rfl) (by kernel_rfl) (by kernel_rfl) (by rfl) HS1.out (fun w hw => by go_simp) ?_
        simp only [Act.put, List.setIfInBounds_toArray, List.set_cons_zero, List.set_cons_succ]
        refine reg_take (v := .pointer (some ⟨g, 0, none⟩)) 3 (some 19) rfl rfl (by kernel_rfl) (by kernel_rfl) (by kernel_rfl) (by rfl) HS1.out (fun w hw => by go_simp) ?_
        simp only [Act.put, List.setIfInBounds_toArray, List.set_cons_zero, List.set_cons_succ]
        refine reg_stepOr (v := .slice N k cN) (wi := w1) (u := .slice (some ⟨gz, 0, none⟩) 256 256) (wj := w2) 4 5 (some 20) (some 21) rfl rfl rfl rfl (by kernel_rfl) (by rfl) (by rfl) (by clear c2 c3; go_simp) (EM.out _ _ _ rfl rfl) HS1.out HS2.out (fun _ => ?_) (fun _ => ?_)
        case' refine_1 =>
          simp only [Act.put, List.setIfInBounds_toArray, List.set_cons_zero, List.set_cons_succ]
          refine reg_step 5 (some 21) rfl rfl (by kernel_rfl) (by rfl) (EM.out _ _ _ rfl rfl) HS2.out (fun _ => ?_)
          simp only [Act.put, List.setIfInBounds_toArray, List.set_cons_zero, List.set_cons_succ]
          refine reg_more (fun w' => Kp nob w w' ∧ Blk w' gz 5 (bvs (List.replicate 256 0))) (fun w' h => h.1) ?_
          have HT2 := Lib.hid (And.intro HS2.out HRW.out)
          have HT3 := Lib.hid (And.intro HS3.out (HRW.out.keep HK23.out (fun e => e)))
          refine reg_bytesStr 6 (some 22) 45 9 5 (.tmp 21) rfl rfl rfl (by kernel_rfl) (by kernel_rfl) (by kernel_rfl) (by rfl) HT2.out u8_under (by kernel_rfl) u8_string (some ⟨gz, 0, none⟩) 256 256 (List.replicate 256 0) (by rw [List.length_replicate]) rfl (fun w h => h.2.row) ?_
          simp only [Act.put, List.setIfInBounds_toArray, List.set_cons_zero, List.set_cons_succ]
          refine reg_step 7 (some 23) rfl rfl (by kernel_rfl) (by rfl) (EB.out _ _ _ rfl rfl) HT3.out (fun _ => ?_)
        case' refine_2 =>
          simp only [Act.put, List.setIfInBounds_toArray, List.set_cons_zero, List.set_cons_succ]
          refine reg_more (fun w' => Kp nob w w' ∧ Blk w' gz 5 (bvs (List.replicate 256 0))) (fun w' h => h.1) ?_
          have HT2 := Lib.hid (And.intro HS2.out HRW.out)
          have HT3 := Lib.hid (And.intro HS3.out (HRW.out.keep HK23.out (fun e => e)))
          refine reg_bytesStr 6 (some 22) 45 9 5 (.tmp 21) rfl rfl rfl (by kernel_rfl) (by kernel_rfl) (by kernel_rfl) (by rfl) HT2.out u8_under (by kernel_rfl) u8_string (some ⟨gz, 0, none⟩) 256 256 (List.replicate 256 0) (by rw [List.length_replicate]) rfl (fun w h => h.2.row) ?_
          simp only [Act.put, List.setIfInBounds_toArray, List.set_cons_zero, List.set_cons_succ]
          refine reg_stepOr (v := .slice N k cN) (wi := w2) (u := .slice (some ⟨g3, 0, none⟩) 1 1) (wj := w3) 4 7 (some 20) (some 23) rfl rfl rfl rfl (by kernel_rfl) (by rfl) (by rfl) (by clear c0 c3; go_simp) (EB.out _ _ _ rfl rfl) HT2.out HT3.out (fun _ => ?_) (fun _ => ?_)
        case' refine_2.refine_1 =>
          simp only [Act.put, List.setIfInBounds_toArray, List.set_cons_zero, List.set_cons_succ]
          refine reg_step 7 (some 23) rfl rfl (by kernel_rfl) (by rfl) (EB.out _ _ _ rfl rfl) HT3.out (fun _ => ?_)
        case' refine_2.refine_2 =>
          simp only [Act.put, List.setIfInBounds_toArray, List.set_cons_zero, List.set_cons_succ]
          refine reg_step (w' := w3) (v := .slice N k cN) 4 (some 20) rfl rfl (by kernel_rfl) (by rfl) (by clear c0 c2; go_simp) HT3.out (fun _ => ?_)
        all_goals
          simp only [Act.put, List.setIfInBounds_toArray, List.set_cons_zero, List.set_cons_succ]
          clear c0 c2 c3
          have HO3 := Lib.hid ((HX1.out.keep0 HK12.out).keep0 HK23.out)
          refine reg_appK 8 (some 24) (.tmp 20) (.tmp 23) 39 rfl rfl rfl (by kernel_rfl) (by rfl) 1 (by decide) 9 i0 _ 16 str_under HI.out.1 HI.out.2.1 HI.out.2.2.1 HI.out.2.2.2 rfl N k cN _ rfl HO3.out.n ⟨g3, 0, none⟩ 1 1 [.string (str (List.replicate 256 0))] rfl rfl HRS.out (by intro u hu; rw [List.mem_singleton.1 hu]; rfl) (by have := HK.out; omega) (by have := HK.out; omega) ?_
          intro A2 c2 w4 o4 g4 a4
          have HX4 := Lib.hid (HO3.out.app0 A2 c2 w4 o4 g4 a4)
          have HS4 := Lib.hid (show Kp nob w w4 ∧ Blk w4 gz 5 (bvs (List.replicate 256 0)) from ⟨HX4.out.1, HT3.out.2.keep ((Kp.refl (fun i => ab N = some i) w3).grown g4 (fun k e => .inl e)) (fun e => HGZ.out.2.2 gz e rfl)⟩)
          clear o4 g4 a4
          refine ⟨HS4.out, fun _ => ?_⟩
          simp only [Act.put, List.setIfInBounds_toArray, List.set_cons_zero, List.set_cons_succ]
          refine reg_take (v := .pointer (some ⟨g, 0, none⟩)) 9 (some 25) rfl rfl (by kernel_rfl) (by kernel_rfl) (by kernel_rfl) (by rfl) HS4.out (fun w hw => by go_simp) ?_
          simp only [Act.put, List.setIfInBounds_toArray, List.set_cons_zero, List.set_cons_succ]
          refine reg_take (v := .pointer (some ⟨g, 0, none⟩)) 10 (some 26) rfl rfl (by kernel_rfl) (by kernel_rfl) (by kernel_rfl) (by rfl) HS4.out (fun w hw => by go_simp) ?_
          simp only [Act.put, List.setIfInBounds_toArray, List.set_cons_zero, List.set_cons_succ]
          have c4 := HX4.out.2.1.cell 0
          have f4 := HX4.out.2.1.frozen 0
          have HS5 := Lib.hid (show Kp nob w (w4.setCell ⟨g, 0, none⟩ (.slice A2 (k + 1) c2)) ∧ Blk (w4.setCell ⟨g, 0, none⟩ (.slice A2 (k + 1) c2)) gz 5 (bvs (List.replicate 256 0)) from ⟨HS4.out.1.setCell (p := ⟨g, 0, none⟩) (.inr HX1.out.g) _, HS4.out.2.far (p := ⟨g, 0, none⟩) HGZ.out.2.1 _⟩)
          refine reg_mute (w' := w4.setCell ⟨g, 0, none⟩ (.slice A2 (k + 1) c2)) 11 none rfl rfl (by kernel_rfl) (by rfl) (by go_simp) HS5.out (fun _ => ?_)
          simp only [Act.put, List.setIfInBounds_toArray, List.set_cons_zero, List.set_cons_succ]
          clear c4 f4
          refine reg_end (by kernel_rfl) ?_
          have HY := Lib.hid HX4.out.2.2
          go_wp2_with fail
          go_meet
          exact ⟨A2, c2, HY.out⟩
      case rest =>
        clear HX
        obtain ⟨N, cN, hx1⟩ := hcut
        have HX := Lib.hid hx1
        clear hx1
        go_upto_region 6 with fail
        have HA1 := Lib.hid ((Kp.refl nob wc).drew)
        have HS1 := Lib.hid (HX.out.k.trans HA1.out (fun _ e => e.elim))
        have HX1 := Lib.hid (HX.out.keep0 HA1.out)
        refine reg_begin (fun w' => Kp nob w w') (by kernel_rfl) HS1.out (fun _ => ?_)
        generalize wc.drew = w1 at *
        obtain ⟨gz, hgz⟩ : ∃ q, q = w1.heap.size := ⟨_, rfl⟩
        obtain ⟨w2, hw2⟩ : ∃ w2, w2 = w1.alloc (.cells (bvs (List.replicate 256 0)).toArray 5) := ⟨_, rfl⟩
        obtain ⟨g3, hg3⟩ : ∃ q, q = w2.heap.size := ⟨_, rfl⟩
        obtain ⟨w3, hw3⟩ : ∃ w3, w3 = w2.alloc (.cells #[.string (str (List.replicate 256 0))] 9) := ⟨_, rfl⟩
        have HK12 := Lib.hid (show Kp nob w1 w2 by rw [hw2]; exact (Kp.refl nob w1).alloc _)
        have HK23 := Lib.hid (show Kp nob w2 w3 by rw [hw3]; exact (Kp.refl nob w2).alloc _)
        have HRW := Lib.hid (show Blk w2 gz 5 (bvs (List.replicate 256 0)) by rw [hgz, hw2]; exact Blk.new w1 _ _)
        have HRS := Lib.hid (show Row w3 (some ⟨g3, 0, none⟩) [.string (str (List.replicate 256 0))] by rw [hg3, hw3]; exact row_one w2 _ _)
        have HGZ := Lib.hid (show w.heap.size ≤ gz ∧ gz ≠ g ∧ (∀ j, ab S = some j → j ≠ gz) from ⟨by rw [hgz]; exact HS1.out.size, fun e => by have := HX1.out.b.lt; omega, fun j e e2 => by have := HX1.out.s.lt j e; omega⟩)
        have EM := Lib.hid (show ∀ (act : Act) (o : Oper) (x : Operand), o.op = .makeSlice 45 x x → act.eval x = .int .i64 256 → (execOp act.eval o).run Try.prog w1 = .ok (.value (.slice (some ⟨gz, 0, none⟩) 256 256)) w2 from fun act o x ho hx => by rw [hgz, hw2]; exact exec_make256 x w1 ho hx)
        have EB := Lib.hid (show ∀ (act : Act) (o : Oper) (x : Operand), o.op = .buildSlice 39 1 #[(0, x)] → act.eval x = .string (str (List.replicate 256 0)) → (execOp act.eval o).run Try.prog w2 = .ok (.value (.slice (some ⟨g3, 0, none⟩) 1 1)) w3 from fun act o x ho hx => by rw [hg3, hw3]; exact exec_one x _ w2 ho hx)
        have HS2 := Lib.hid (HS1.out.trans HK12.out (fun _ e => e.elim))
        have HS3 := Lib.hid (HS2.out.trans HK23.out (fun _ e => e.elim))
        clear hgz hw2 hg3 hw3
        have c0 : w1.cell? ⟨g, 1, none⟩ = some (.slice S k cS) := HX1.out.b.cell 1
        have c2 : w2.cell? ⟨g, 1, none⟩ = some (.slice S k cS) := (HX1.out.b.keep HK12.out (fun e => e)).cell 1
        have c3 : w3.cell? ⟨g, 1, none⟩ = some (.slice S k cS) := ((HX1.out.b.keep HK12.out (fun e => e)).keep HK23.out (fun e => e)).cell 1
        refine reg_take (v := .pointer (some ⟨g, 0, none⟩)) 0 (some 27) rfl rfl (by kernel_rfl) (by kernel_rfl) (by kernel_rfl) (by rfl) HS1.out (fun w hw => by go_simp) ?_
        simp only [Act.put, List.setIfInBounds_toArray, List.set_cons_zero, List.set_cons_succ]
        refine reg_take (v := .pointer (some ⟨g, 0, none⟩)) 1 (some 28) rfl rfl (by kernel_rfl) (by kernel_rfl) (by kernel_rfl) (by rfl) HS1.out (fun w hw => by go_simp) ?_
        simp only [Act.put, List.setIfInBounds_toArray, List.set_cons_zero, List.set_cons_succ]
        refine reg_take (v := .pointer (some ⟨g, 0, none⟩)) 2 (some 29) rfl rfl (by kernel_rfl) (by kernel_rfl) (by kernel_rfl) (by rfl) HS1.out (fun w hw => by go_simp) ?_
        simp only [Act.put, List.setIfInBounds_toArray, List.set_cons_zero, List.set_cons_succ]
        refine reg_take (v := .pointer (some ⟨g, 1, none⟩)) 3 (some 30) rfl rfl (by kernel_rfl) (by kernel_rfl) (by kernel_rfl) (by rfl) HS1.out (fun w hw => by go_simp) ?_
        simp only [Act.put, List.setIfInBounds_toArray, List.set_cons_zero, List.set_cons_succ]
        refine reg_stepOr (v := .slice S k cS) (wi := w1) (u := .slice (some ⟨gz, 0, none⟩) 256 256) (wj := w2) 4 5 (some 31) (some 32) rfl rfl rfl rfl (by kernel_rfl) (by rfl) (by rfl) (by clear c2 c3; go_simp) (EM.out _ _ _ rfl rfl) HS1.out HS2.out (fun _ => ?_) (fun _ => ?_)
        case' refine_1 =>
          simp only [Act.put, List.setIfInBounds_toArray, List.set_cons_zero, List.set_cons_succ]
          refine reg_step 5 (some 32) rfl rfl (by kernel_rfl) (by rfl) (EM.out _ _ _ rfl rfl) HS2.out (fun _ => ?_)
          simp only [Act.put, List.setIfInBounds_toArray, List.set_cons_zero, List.set_cons_succ]
          refine reg_more (fun w' => Kp nob w w' ∧ Blk w' gz 5 (bvs (List.replicate 256 0))) (fun w' h => h.1) ?_
          have HT2 := Lib.hid (And.intro HS2.out HRW.out)
          have HT3 := Lib.hid (And.intro HS3.out (HRW.out.keep HK23.out (fun e => e)))
          refine reg_bytesStr 6 (some 33) 45 9 5 (.tmp 32) rfl rfl rfl (by kernel_rfl) (by kernel_rfl) (by kernel_rfl) (by rfl) HT2.out u8_under (by kernel_rfl) u8_string (some ⟨gz, 0, none⟩) 256 256 (List.replicate 256 0) (by rw [List.length_replicate]) rfl (fun w h => h.2.row) ?_
          simp only [Act.put, List.setIfInBounds_toArray, List.set_cons_zero, List.set_cons_succ]
          refine reg_step 7 (some 34) rfl rfl (by kernel_rfl) (by rfl) (EB.out _ _ _ rfl rfl) HT3.out (fun _ => ?_)
        case' refine_2 =>
          simp only [Act.put, List.setIfInBounds_toArray, List.set_cons_zero, List.set_cons_succ]
          refine reg_more (fun w' => Kp nob w w' ∧ Blk w' gz 5 (bvs (List.replicate 256 0))) (fun w' h => h.1) ?_
          have HT2 := Lib.hid (And.intro HS2.out HRW.out)
          have HT3 := Lib.hid (And.intro HS3.out (HRW.out.keep HK23.out (fun e => e)))
          refine reg_bytesStr 6 (some 33) 45 9 5 (.tmp 32) rfl rfl rfl (by kernel_rfl) (by kernel_rfl) (by kernel_rfl) (by rfl) HT2.out u8_under (by kernel_rfl) u8_string (some ⟨gz, 0, none⟩) 256 256 (List.replicate 256 0) (by rw [List.length_replicate]) rfl (fun w h => h.2.row) ?_
          simp only [Act.put, List.setIfInBounds_toArray, List.set_cons_zero, List.set_cons_succ]
          refine reg_stepOr (v := .slice S k cS) (wi := w2) (u := .slice (some ⟨g3, 0, none⟩) 1 1) (wj := w3) 4 7 (some 31) (some 34) rfl rfl rfl rfl (by kernel_rfl) (by rfl) (by rfl) (by clear c0 c3; go_simp) (EB.out _ _ _ rfl rfl) HT2.out HT3.out (fun _ => ?_) (fun _ => ?_)
        case' refine_2.refine_1 =>
          simp only [Act.put, List.setIfInBounds_toArray, List.set_cons_zero, List.set_cons_succ]
          refine reg_step 7 (some 34) rfl rfl (by kernel_rfl) (by rfl) (EB.out _ _ _ rfl rfl) HT3.out (fun _ => ?_)
        case' refine_2.refine_2 =>
          simp only [Act.put, List.setIfInBounds_toArray, List.set_cons_zero, List.set_cons_succ]
          refine reg_step (w' := w3) (v := .slice S k cS) 4 (some 31) rfl rfl (by kernel_rfl) (by rfl) (by clear c0 c2; go_simp) HT3.out (fun _ => ?_)
        all_goals
          simp only [Act.put, List.setIfInBounds_toArray, List.set_cons_zero, List.set_cons_succ]
          clear c0 c2 c3
          have HO3 := Lib.hid ((HX1.out.keep0 HK12.out).keep0 HK23.out)
          refine reg_appK 8 (some 35) (.tmp 31) (.tmp 34) 39 rfl rfl rfl (by kernel_rfl) (by rfl) 1 (by decide) 9 i0 _ 16 str_under HI.out.1 HI.out.2.1 HI.out.2.2.1 HI.out.2.2.2 rfl S k cS _ rfl HO3.out.s ⟨g3, 0, none⟩ 1 1 [.string (str (List.replicate 256 0))] rfl rfl HRS.out (by intro u hu; rw [List.mem_singleton.1 hu]; rfl) (by have := HK.out; omega) (by have := HK.out; omega) ?_
          intro A2 c2 w4 o4 g4 a4
          have HX4 := Lib.hid (HO3.out.app1 A2 c2 w4 o4 g4 a4)
          have HS4 := Lib.hid (show Kp nob w w4 ∧ Blk w4 gz 5 (bvs (List.replicate 256 0)) from ⟨HX4.out.1, HT3.out.2.keep ((Kp.refl (fun i => ab S = some i) w3).grown g4 (fun k e => .inl e)) (fun e => HGZ.out.2.2 gz e rfl)⟩)
          clear o4 g4 a4
          refine ⟨HS4.out, fun _ => ?_⟩
          simp only [Act.put, List.setIfInBounds_toArray, List.set_cons_zero, List.set_cons_succ]
          refine reg_take (v := .pointer (some ⟨g, 0, none⟩)) 9 (some 36) rfl rfl (by kernel_rfl) (by kernel_rfl) (by kernel_rfl) (by rfl) HS4.out (fun w hw => by go_simp) ?_
          simp only [Act.put, List.setIfInBounds_toArray, List.set_cons_zero, List.set_cons_succ]
          refine reg_take (v := .pointer (some ⟨g, 1, none⟩)) 10 (some 37) rfl rfl (by kernel_rfl) (by kernel_rfl) (by kernel_rfl) (by rfl) HS4.out (fun w hw => by go_simp) ?_
          simp only [Act.put, List.setIfInBounds_toArray, List.set_cons_zero, List.set_cons_succ]
          have c4 := HX4.out.2.1.cell 1
          have f4 := HX4.out.2.1.frozen 1
          have HS5 := Lib.hid (show Kp nob w (w4.setCell ⟨g, 1, none⟩ (.slice A2 (k + 1) c2)) ∧ Blk (w4.setCell ⟨g, 1, none⟩ (.slice A2 (k + 1) c2)) gz 5 (bvs (List.replicate 256 0)) from ⟨HS4.out.1.setCell (p := ⟨g, 1, none⟩) (.inr HX1.out.g) _, HS4.out.2.far (p := ⟨g, 1, none⟩) HGZ.out.2.1 _⟩)
          refine reg_mute (w' := w4.setCell ⟨g, 1, none⟩ (.slice A2 (k + 1) c2)) 11 none rfl rfl (by kernel_rfl) (by rfl) (by go_simp) HS5.out (fun _ => ?_)
          simp only [Act.put, List.setIfInBounds_toArray, List.set_cons_zero, List.set_cons_succ]
          clear c4 f4
          refine reg_end (by kernel_rfl) ?_
          have HY := Lib.hid HX4.out.2.2
          have e5 := HE5.out
          go_wp2
          refine ⟨⟨k1', N, A2, cN, c2, by rw [HK1.out]; exact HLT.out, rfl, by rw [HK1.out]; exact HY.out⟩, by have := HK1.out; have := HLT.out; simp [intOf]; omega⟩
    · obtain rfl : k = q := by omega
      obtain ⟨F, hF1, hF2⟩ := HX.out.done
      have HF := Lib.hid (And.intro hF1 hF2)
      clear hF1 hF2 hlt hk
      by_cases hn : (k : Int) < n
      · have d1 : decide ((k : Int) < n) = true := decide_eq_true hn
        have d2 : decide ((k : Int) < 4096) = false := decide_eq_false (by have := HQ.out; omega)
        have d2n : decide (k < 4096) = false := decide_eq_false (by have := HQ.out; omega)
        clear hn
        go_wp2
        go_ret
        exact ⟨g, F, N, S, cN, cS, rfl, HF.out.1, HF.out.2, HX.out.k⟩
      · have d1 : decide ((k : Int) < n) = false := decide_eq_false hn
        clear hn
        go_wp2
        go_ret
        exact ⟨g, F, N, S, cN, cS, rfl, HF.out.1, HF.out.2, HX.out.k⟩
end Go.Proofs.Ytchdobneipfghaa.Disk
