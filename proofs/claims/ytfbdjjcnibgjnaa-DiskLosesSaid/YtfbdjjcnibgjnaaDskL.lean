/- What the statements of layer 11 play: the document's example; the document's words for a sector. -/
import Derived.Test.YtfbdjjcnibgjnaaDskK
import Derived.Lib.SlBytesConst
namespace Go.Proofs.Ytfbdjjcnibgjnaa.Disk
set_option linter.unusedVariables false
set_option linter.unusedSimpArgs false
open Go Go.RowKit Kit

theorem u8_under : Try.prog.underlying 5 = some (.int .u8) := by kernel_rfl
theorem str_under : Try.prog.underlying 9 = some .string := by kernel_rfl
theorem conv_row (w1 : World) (A2 : Option Addr) (n c : Nat) (l : List UInt8) (hn : l.length = n) (hr : Row w1 A2 (bvs l)) : (convert 32 9 (.slice A2 n c)).run Try.prog w1 = .ok (.string (str l)) w1 :=
  run_bytes_str w1 32 9 5 u8s_under u8_under str_under A2 n c l hn hr
theorem made_zero (n : Nat) : madeCells #[(.int .u8 0 : Value)] n = (bvs (List.replicate n 0)).toArray := by
  apply Array.ext
  · simp [size_madeCells, bvs]
  · intro i h1 h2
    simp [madeCells, bvs, bv, Nat.mod_one]
theorem make_any (n : Nat) (hn : n ≤ 256) (w : World) : (Instr.makeSlice 32 (.int .i64 (n : Int)) (.int .i64 (n : Int))).run Try.prog w = .ok (.slice (some ⟨w.heap.size, 0, none⟩) n n) (w.alloc (.cells (bvs (List.replicate n 0)).toArray 5)) := by
  rw [← made_zero]
  exact run_make_row' 32 5 (.int .u8 0) 1 u8s_under u8s_info rfl .i64 .i64 n (by omega) (by omega) w
theorem str_append2 (l m : List UInt8) : str l ++ str m = str (l ++ m) := by
  apply ByteArray.ext; simp [str]
set_option maxHeartbeats 1000000 in
theorem fFull (l : List UInt8) (w : World) (hl : l.length ≤ 256) :
    Calls Try.prog 12 #[.string (str l)] w fun e w' => e = .returned (.string (str (full l))) ∧ Kp nob w w' := by
  obtain ⟨n, hn⟩ : ∃ n, n = 256 - l.length := ⟨_, rfl⟩
  have e1 : IntKind.i64.wrap (256 - (l.length : Int)) = (n : Int) := by rw [IntWalk.i64_in _ (by omega)]; omega
  have HF := Lib.hid (show str l ++ str (List.replicate n 0) = str (full l) by rw [str_append2, full, hn])
  have hm := make_any n (by omega)
  have hs := str_size l
  have hc := fun w1 : World => conv_row (w1.alloc (.cells (bvs (List.replicate n 0)).toArray 5)) (some ⟨w1.heap.size, 0, none⟩) n n (List.replicate n 0) (by simp) (row_new w1 _ _)
  have hz : (str l).size + (str (List.replicate n 0)).size ≤ 9223372036854775807 := by rw [str_size, str_size, List.length_replicate]; omega
  clear hn hl
  go_enter Try.func12, Try.ntmps12
  go_wp2
  go_ret
  rw [← HF.out]
  exact ⟨rfl, (Kp.refl nob w).alloc _⟩
theorem row_lit (w : World) (xs : List Value) (t : TypeId) (fr : Nat × Nat) : Row (w.alloc (.cells xs.toArray t fr)) (some ⟨w.heap.size, 0, none⟩) xs := by
  refine .inr ⟨w.heap.size, 0, rfl, by simp, fun i u hu => ?_⟩
  have hg : (w.alloc (.cells xs.toArray t fr)).heap[w.heap.size]? = some (.cells xs.toArray t fr) := heap_alloc_new w _
  rw [Nat.zero_add, cell_of_row _ _ _ _ _ _ hg]
  simpa using hu
/-- The example's disks. -/
def A1 : Dk := (write E8 (new 3) (0 : Nat) [120]).1
def A2 : Dk := (write E8 A1 (1 : Nat) [121]).1
def A4 : Dk := on (lose A2 2)
theorem a1_eq : A1 = ⟨[full [120], full [], full []], [full [], full [], full []], [(0, full [120])], false, 1, 0, 0⟩ := rfl
theorem a2_eq : A2 = ⟨[full [120], full [121], full []], [full [], full [], full []], [(0, full [120]), (1, full [121])], false, 2, 0, 0⟩ := rfl
theorem a4_eq : A4 = ⟨[full [], full [121], full []], [full [], full [121], full []], [], false, 2, 0, 0⟩ := rfl
theorem w1_ok : (write E8 (new 3) (0 : Nat) [120]).2 = 0 := rfl
theorem w2_ok : (write E8 A1 (1 : Nat) [121]).2 = 0 := rfl
set_option maxHeartbeats 2000000 in
set_option maxRecDepth 100000 in
theorem alive_yes (w : World) : Calls Try.prog 8 #[] w fun e w' => e = .returned (.bool true) ∧ Kp nob w w' := by
  have kc := fun (w : World) (C : Array Value) (n c : Nat) => Lib.run_convert_bytes_const (P := Try.prog) w 32 5 C n c u8s_under u8_under
  go_enter Try.func8, Try.ntmps8
  go_wp2_with fail
  refine (new_any 3 w).mono ?_
  rintro e w1 ⟨g, N, S, rfl, h1, k1, n1⟩
  rw [show clamp 3 = 3 from rfl] at h1
  have H1 := Lib.hid h1; have K1 := Lib.hid k1; have N1 := Lib.hid n1
  clear h1 k1 n1
  go_wp2_with fail
  have q1 := write_yes (new 3) 0 (some ⟨w1.heap.size, 0, none⟩) 1 1 [120] g N S none 0 _ (H1.out.keep0 ((Kp.refl nob w1).alloc (.cells (bvs [120]).toArray 5 (1, 2)))) rfl (row_lit w1 _ _ _) rfl (by decide) (by decide) (by decide) (by decide) (by decide) (by decide)
  rw [w1_ok] at q1
  refine q1.mono ?_
  rintro e w2 ⟨rfl, W2, c2, h2, k2, n2⟩
  have H2 := Lib.hid (show Cd w2 g N S W2 c2 A1 from h2)
  have K2 := Lib.hid ((K1.out.alloc (.cells (bvs [120]).toArray 5 (1, 2))).since k2 N1.out)
  have N2 : Hid (∀ k, dF g N S W2 k → w.heap.size ≤ k) := Lib.hid (fun k e => by
    rcases Dz.df (w := w1.alloc (.cells (bvs [120]).toArray 5 (1, 2))) (w2 := w2) n2 k e with h | h
    · exact N1.out k h
    · exact Nat.le_trans (K1.out.alloc (.cells (bvs [120]).toArray 5 (1, 2))).size h)
  clear h2 k2 n2 q1
  go_wp2_with fail
  have q2 := write_yes A1 1 (some ⟨w2.heap.size, 0, none⟩) 1 1 [121] g N S W2 c2 _ (H2.out.keep0 ((Kp.refl nob w2).alloc (.cells (bvs [121]).toArray 5 (1, 2)))) rfl (row_lit w2 _ _ _) rfl (by decide) (by decide) (by decide) (by decide) (by decide) (by decide)
  rw [w2_ok] at q2
  refine q2.mono ?_
  rintro e w3 ⟨rfl, W3, c3, h3, k3, n3⟩
  have H3 := Lib.hid (show Cd w3 g N S W3 c3 A2 from h3)
  have K3 := Lib.hid ((K2.out.alloc (.cells (bvs [121]).toArray 5 (1, 2))).since k3 N2.out)
  have N3 : Hid (∀ k, dF g N S W3 k → w.heap.size ≤ k) := Lib.hid (fun k e => by
    rcases Dz.df (w := w2.alloc (.cells (bvs [121]).toArray 5 (1, 2))) (w2 := w3) n3 k e with h | h
    · exact N2.out k h
    · exact Nat.le_trans (K2.out.alloc (.cells (bvs [121]).toArray 5 (1, 2))).size h)
  clear h3 k3 n3 q2
  go_wp2_with fail
  refine (off_any A2 2 g N S W3 c3 w3 H3.out (by decide) (by decide)).mono ?_
  rintro e w4 ⟨rfl, W4, c4, h4, k4, n4⟩
  have H4 := Lib.hid h4
  have K4 := Lib.hid (K3.out.since k4 N3.out)
  have N4 : Hid (∀ k, dF g N S W4 k → w.heap.size ≤ k) := Lib.hid (fun k e => by
    rcases Dz.df (w := w3) (w2 := w4) n4 k e with h | h
    · exact N3.out k h
    · exact Nat.le_trans K3.out.size h)
  clear h4 k4 n4
  go_wp2_with fail
  refine (on_any (lose A2 2) g N S W4 c4 w4 H4.out).mono ?_
  rintro e w5 ⟨rfl, h5, k5⟩
  have H5 := Lib.hid (show Cd w5 g N S W4 c4 A4 from h5)
  have K5 := Lib.hid (K4.out.since k5 (fun k e => N4.out k (.inl e)))
  clear h5 k5
  go_wp2_with fail
  refine (read_yes A4 0 (full []) g N S W4 c4 w5 H5.out rfl rfl).mono ?_
  rintro e w6 ⟨b6, rfl, h6, k6, n6⟩
  have H6 := Lib.hid h6; have K6 := Lib.hid k6
  clear h6 k6 n6
  go_wp2_with fail
  refine (read_yes A4 1 (full [121]) g N S W4 c4 w6 (H5.out.keep0 K6.out) rfl rfl).mono ?_
  rintro e w7 ⟨b7, rfl, h7, k7, n7⟩
  have x0 : w7.cell? ⟨b6, 0, none⟩ = some (.int .u8 0) := by rw [(H6.out.keep k7 (fun e => e)).cell]; rfl
  have x1 : w7.cell? ⟨b7, 0, none⟩ = some (.int .u8 121) := by rw [h7.cell]; rfl
  have K7 := Lib.hid ((K5.out.trans K6.out (fun _ e => e.elim)).trans k7 (fun _ e => e.elim))
  clear h7 k7 n7 kc
  go_wp2
  go_ret
  exact ⟨rfl, K7.out⟩
end Go.Proofs.Ytfbdjjcnibgjnaa.Disk
