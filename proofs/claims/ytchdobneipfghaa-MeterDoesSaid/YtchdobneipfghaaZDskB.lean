/- The disk: what a sector is behind a write; the writes that aren't safe, settled. -/
import Derived.Test.YtchdobneipfghaaZDskA
import Derived.Test.YtchdobneipfghaaZG03
import Derived.Test.YtchdobneipfghaaZG02
import Derived.Laws.ResultCell
namespace Go.Proofs.Ytchdobneipfghaa.Disk
set_option linter.unusedVariables false
set_option linter.unusedSimpArgs false
open Go Go.RowKit Kit

theorem results_row_tmp {P : Program} {fn : Func} {p u : Tmp} {ty : TypeId} (h : fn.results = #[.cell p ty, .tmp u]) (tmps : Array Value) (w : World) (g : Nat) (t : TypeId) (cs : List Value) (d : TypeDesc)
    (hp : tmps.getD p undef = .pointer (some ⟨g, 0, none⟩)) (hg : Blk w g t cs) (hu : P.underlying ty = some d) (hd : d.isRow = true) (hi : (P.info? ty).map (·.size) = some cs.length) (v : Value) (hv : tmps.getD u undef = v) :
    (results fn tmps).run P w = .ok (.tuple #[.agg cs.toArray, v]) w := by
  rw [results_cell_tmp h, hp, hv]
  simp [asAddr, run_loadVar_mid w g 0 ty cs d hg.range hu hd hi, Result.andThen]
/-- A sector of noughts. -/
def z256 : List UInt8 := List.replicate 256 0
theorem z256_length : z256.length = 256 := List.length_replicate
theorem z256_full : z256 = full [] := rfl
def zsec : List Value := bvs z256
theorem zsec_length : zsec.length = 256 := by rw [zsec, bvs_length, z256_length]
theorem zsec_one : ∀ u ∈ zsec, u.oneCell' = true := bvs_one _
set_option maxRecDepth 100000 in
theorem zsec_run (w : World) : (zeroValue 74).run Try.prog w = .ok (.agg zsec.toArray) w := by kernel_rfl
set_option maxRecDepth 100000 in
theorem zsec_build (w : World) : (Instr.build 74 #[]).run Try.prog w = .ok (.agg zsec.toArray) w := by kernel_rfl
theorem zsec_size : (Try.prog.info? 74).map (·.size) = some zsec.length := by rw [zsec_length]; exact sec_size
theorem zsec_full (b : List UInt8) (h : b.length ≤ 256) : splice zsec 0 (bvs b) = bvs (full b) := by
  rw [splice, full, bvs_append, zsec, List.take_zero, List.nil_append, Nat.zero_add, bvs_length]
  congr 1
  rw [bvs, ← List.map_drop, z256, List.drop_replicate]
  rfl
/-- What a sector is behind a write, and the answer. -/
def fill (D : Dk) (i : Int) (b : List UInt8) : List UInt8 × Int := if has D i then (if 256 < b.length then (z256, 3) else (full b, 0)) else (z256, 1)
theorem fill_length (D : Dk) (i : Int) (b : List UInt8) : (fill D i b).1.length = 256 := by
  unfold fill
  split
  · split
    · exact z256_length
    · exact full_length b (by omega)
  · exact z256_length
set_option maxHeartbeats 2000000 in
set_option maxRecDepth 100000 in
theorem filled_any (D : Dk) (i : Int) (A : Option Addr) (n c : Nat) (b : List UInt8) (g N S : Nat) (W : Option Addr) (cW : Nat) (w : World) (h : Cd w g N S W cW D) (hn : b.length = n) (hr : Row w A (bvs b)) (hm : n ≤ maxLen) :
    Calls Try.prog 32 #[.pointer (some ⟨g, 0, none⟩), .int .i64 i, .slice A n c] w fun e w' => e = .returned (.tuple #[.agg (bvs (fill D i b).1).toArray, .int .i64 (fill D i b).2]) ∧ Kp nob w w' := by
  have hz := zsec_run
  have HA := Lib.hid (fun w' k => has_any D i g N S W cW w' (h.keep0 (w2 := w') k))
  have HK0 := Lib.hid ((Kp.refl nob w).alloc (.cells zsec.toArray 74))
  have HB0 := Lib.hid (Blk.new w 74 zsec)
  cases hh : has D i with
  | false =>
    have HF := Lib.hid (show fill D i b = (z256, 1) by rw [fill, hh]; rfl)
    rw [hh] at HA
    clear hh
    go_enter Try.func32, Try.ntmps32
    go_wp2_with fail
    refine (HA.out _ HK0.out).mono ?_
    rintro e w1 ⟨rfl, rfl⟩
    go_wp2_with (first
      | (refine wpList_built rfl 74 _ rfl (.agg zsec.toArray) (by exact exec_build _ _ rfl [] _ rfl (zsec_build _)) ?_)
      | (refine wpList_store_blk rfl 74 (.tmp 6) (.tmp 14) rfl _ _ zsec zsec HB0.out rfl rfl rfl zsec_size zsec_one ?_; intro w2 hB2 k2 z2; have HB2 := Lib.hid hB2; have HK2 := Lib.hid (HK0.out.since k2 (fun i e => Nat.le_of_eq e.symm)); clear hB2 k2 z2))
    refine bodyPost_ret (results_row_tmp rfl _ _ w.heap.size _ zsec _ rfl HB2.out sec_under rfl zsec_size _ rfl) rfl ⟨?_, HK2.out⟩
    rw [HF.out]; rfl
  | true =>
    rw [hh] at HA
    by_cases hl : 256 < n
    · have HF := Lib.hid (show fill D i b = (z256, 3) by rw [fill, hh, hn, if_pos hl]; rfl)
      have hd : decide ((256 : Int) < (n : Int)) = true := by simp; omega
      clear hh hl
      go_enter Try.func32, Try.ntmps32
      go_wp2_with fail
      refine (HA.out _ HK0.out).mono ?_
      rintro e w1 ⟨rfl, rfl⟩
      go_wp2_with (first
        | (refine wpList_built rfl 74 _ rfl (.agg zsec.toArray) (by exact exec_build _ _ rfl [] _ rfl (zsec_build _)) ?_)
        | (refine wpList_store_blk rfl 74 (.tmp 6) (.tmp 19) rfl _ _ zsec zsec HB0.out rfl rfl rfl zsec_size zsec_one ?_; intro w2 hB2 k2 z2; have HB2 := Lib.hid hB2; have HK2 := Lib.hid (HK0.out.since k2 (fun i e => Nat.le_of_eq e.symm)); clear hB2 k2 z2))
      refine bodyPost_ret (results_row_tmp rfl _ _ w.heap.size _ zsec _ rfl HB2.out sec_under rfl zsec_size _ rfl) rfl ⟨?_, HK2.out⟩
      rw [HF.out]; rfl
    · have HF := Lib.hid (show fill D i b = (full b, 0) by rw [fill, hh, hn, if_neg hl]; rfl)
      have hd : decide ((256 : Int) < (n : Int)) = false := by simp; omega
      have HZF := Lib.hid (zsec_full b (by omega))
      have HLF := Lib.hid (full_length b (by omega))
      have HR := Lib.hid (hr.keep0 ((HK0.out.alloc (.cells zsec.toArray 74))))
      have HL := Lib.hid (show (bvs b).length = Nat.min n 256 by rw [bvs_length, hn]; exact (Nat.min_eq_left (by omega)).symm)
      have HL2 := Lib.hid (show 0 + (bvs b).length ≤ zsec.length by rw [bvs_length, zsec_length]; omega)
      have HB1 := Lib.hid (Blk.new (w.alloc (.cells zsec.toArray 74)) 74 zsec)
      clear hh hl hr
      go_enter Try.func32, Try.ntmps32
      go_wp2_with fail
      refine (HA.out _ HK0.out).mono ?_
      rintro e w1 ⟨rfl, rfl⟩
      go_wp2_with (first
        | (refine wpList_copy_blk rfl (.tmp 20) (.tmp 21) 45 45 rfl 5 u8s_under u8_size (w.heap.size + 1) 0 _ _ _ _ _ _ rfl rfl zsec 74 (by simpa using HB1.out) (bvs b) HL.out (fun _ => rfl) HR.out HL2.out (bvs_one _) ?_
           intro w3 hB3 k3 z3
           rw [HZF.out] at hB3
           have HB3 := Lib.hid hB3
           have HK3 := Lib.hid ((HK0.out.alloc (.cells zsec.toArray 74)).since k3 (fun i e => by have e : i = w.heap.size + 1 := e; omega))
           have HB4 := Lib.hid ((HB0.out.alloc (.cells zsec.toArray 74)).keep k3 (fun e => by have e : w.heap.size = w.heap.size + 1 := e; omega))
           clear hB3 k3 z3)
        | (refine wpList_load_blk rfl 74 (.tmp 8) rfl _ _ _ HB3.out rfl _ sec_under rfl (sec_size' _ HLF.out) ?_)
        | (refine wpList_store_blk rfl 74 (.tmp 6) (.tmp 23) rfl _ _ zsec (bvs (full b)) HB4.out rfl rfl (by rw [bvs_length, HLF.out, zsec_length]) (sec_size' _ HLF.out) (bvs_one _) ?_; intro w2 hB2 k2 z2; have HB2 := Lib.hid hB2; have HK2 := Lib.hid (HK3.out.since k2 (fun i e => Nat.le_of_eq e.symm)); clear hB2 k2 z2))
      refine bodyPost_ret (results_row_tmp rfl _ _ w.heap.size _ (bvs (full b)) _ rfl HB2.out sec_under rfl (sec_size' _ HLF.out) _ rfl) rfl ⟨?_, HK2.out⟩
      rw [HF.out]; rfl
end Go.Proofs.Ytchdobneipfghaa.Disk
