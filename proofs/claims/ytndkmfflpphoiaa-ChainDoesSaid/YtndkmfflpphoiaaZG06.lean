/- Lemmas: RegX DskB DskC DskD DskE DskNw. -/
import Derived.Test.YtndkmfflpphoiaaZG05
import Derived.Laws.ResultCell
import Derived.Laws.MakeOwn
set_option linter.unusedVariables false
set_option linter.unusedSimpArgs false
namespace Go.Proofs.Ytndkmfflpphoiaa.Kit
open Go Go.RowKit
/-- A call through an interface whose dynamic type is known. -/
theorem exec_invoke {P : Program} {a : Act} {o : Oper} {w : World} (f : FuncId) (T : TypeId) (u v : Value) (r : Operand) (nm : String) (xs : Array Operand) (ts : Array TypeId) (args : List Value) (ho : o.op = .call { callee := .invoke r nm, args := xs, argTypes := ts })
    (hr : a.eval r = .iface T u) (hm : (method (P.types.size + Made.depth) T u nm).run P w = .ok (f, v) w)
    (hf : (P.funcs[f]?).any (fun fn => !(fn.name == "runtime.NumGoroutine") && fn.body.isSome) = true) (hx : xs.toList.map a.eval = args) : (execOp a.eval o).run P w = .ok (.enter f (v :: args).toArray) w := by
  subst hx
  cases hq : P.funcs[f]? with
  | none => rw [hq] at hf; cases hf
  | some fn =>
    rw [hq] at hf
    simp only [Option.any_some, Bool.and_eq_true, Bool.not_eq_true'] at hf
    obtain ⟨h1, h2⟩ := hf
    have h3 : fn.body.isNone = false := by cases hb : fn.body <;> simp_all
    have e : ∀ zs : Array Value, (callFunc f zs).run P w = .ok (.enter f zs) w := by
      intro zs
      unfold callFunc
      simp [go_sem, hq]
      simp at h1
      cases hb : fn.body with
      | none => simp [hb] at h3
      | some c => simp [h1]
    have e2 : (#[v] ++ xs.map a.eval) = (v :: List.map a.eval xs.toList).toArray := by apply Array.ext'; simp
    unfold execOp
    simp only [ho, resolve, Sem.run_bind, Sem.run_pure, Result.andThen_ok]
    unfold Go.invoke
    have e3 : (#[a.eval r] ++ xs.map a.eval)[0]? = some (.iface T u) := by rw [hr, ← Array.getElem?_toList, Array.toList_append]; rfl
    have e4 : (#[a.eval r] ++ xs.map a.eval).extract 1 (#[a.eval r] ++ xs.map a.eval).size = xs.map a.eval   := by apply Array.ext'; simp; exact List.take_of_length_le (by simp)
    simp only [e3, e4]
    unfold callMethod
    simp only [Sem.run_bind, run_program, Result.andThen_ok, hm, e2, e]
end Go.Proofs.Ytndkmfflpphoiaa.Kit
namespace Go.Proofs.Ytndkmfflpphoiaa.Disk
open Go Go.RowKit Kit
theorem results_row_tmp {P : Program} {fn : Func} {p u : Tmp} {ty : TypeId} (h : fn.results = #[.cell p ty, .tmp u]) (tmps : Array Value) (w : World) (g : Nat) (t : TypeId) (cs : List Value) (d : TypeDesc)
    (hp : tmps.getD p undef = .pointer (some ⟨g, 0, none⟩)) (hg : Blk w g t cs) (hu : P.underlying ty = some d) (hd : d.isRow = true) (hi : (P.info? ty).map (·.size) = some cs.length) (v : Value) (hv : tmps.getD u undef = v) :
    (results fn tmps).run P w = .ok (.tuple #[.agg cs.toArray, v]) w := by
  rw [results_cell_tmp h, hp, hv]
  simp [asAddr, run_loadVar_mid w g 0 ty cs d hg.range hu hd hi, Result.andThen]
/-- A sector of noughts. -/
def z256 : List UInt8 := List.replicate 256 0
theorem z256_length : z256.length = 256 := List.length_replicate
theorem z256_full : z256 = full [] := rfl
def zsec : List Value := bvs z256
theorem zsec_length : zsec.length = 256 := by rw [zsec, bvs_length, z256_length]
theorem zsec_one : ∀ u ∈ zsec, u.oneCell' = true := bvs_one _
set_option maxRecDepth 100000 in
theorem zsec_run (w : World) : (zeroValue 86).run Try.prog w = .ok (.agg zsec.toArray) w := by kernel_rfl
set_option maxRecDepth 100000 in
theorem zsec_build (w : World) : (Instr.build 86 #[]).run Try.prog w = .ok (.agg zsec.toArray) w := by kernel_rfl
theorem zsec_size : (Try.prog.info? 86).map (·.size) = some zsec.length := by rw [zsec_length]; exact sec_size
theorem zsec_full (b : List UInt8) (h : b.length ≤ 256) : splice zsec 0 (bvs b) = bvs (full b) := by
  rw [splice, full, bvs_append, zsec, List.take_zero, List.nil_append, Nat.zero_add, bvs_length]
  congr 1
  rw [bvs, ← List.map_drop, z256, List.drop_replicate]
  rfl
/-- What a sector is behind a write, and the answer. -/
def fill (D : Dk) (i : Int) (b : List UInt8) : List UInt8 × Int := if has D i then (if 256 < b.length then (z256, 3) else (full b, 0)) else (z256, 1)
theorem fill_length (D : Dk) (i : Int) (b : List UInt8) : (fill D i b).1.length = 256 := by
  unfold fill
  split
  · split
    · exact z256_length
    · exact full_length b (by omega)
  · exact z256_length
set_option maxHeartbeats 2000000 in
set_option maxRecDepth 100000 in
theorem filled_any (D : Dk) (i : Int) (A : Option Addr) (n c : Nat) (b : List UInt8) (g N S : Nat) (W : Option Addr) (cW : Nat) (w : World) (h : Cd w g N S W cW D) (hn : b.length = n) (hr : Row w A (bvs b)) (hm : n ≤ maxLen) :
    Calls Try.prog 48 #[.pointer (some ⟨g, 0, none⟩), .int .i64 i, .slice A n c] w fun e w' => e = .returned (.tuple #[.agg (bvs (fill D i b).1).toArray, .int .i64 (fill D i b).2]) ∧ Kp nob w w' := by
  have hz := zsec_run
  have HA := Lib.hid (fun w' k => has_any D i g N S W cW w' (h.keep0 (w2 := w') k))
  have HK0 := Lib.hid ((Kp.refl nob w).alloc (.cells zsec.toArray 86))
  have HB0 := Lib.hid (Blk.new w 86 zsec)
  cases hh : has D i with
  | false =>
    have HF := Lib.hid (show fill D i b = (z256, 1) by rw [fill, hh]; rfl)
    rw [hh] at HA
    clear hh
    go_enter Try.func48, Try.ntmps48
    go_wp2_with fail
    refine (HA.out _ HK0.out).mono ?_
    rintro e w1 ⟨rfl, rfl⟩
    go_wp2_with (first
      | (refine wpList_built rfl 86 _ rfl (.agg zsec.toArray) (by exact exec_build _ _ rfl [] _ rfl (zsec_build _)) ?_)
      | (refine wpList_store_blk rfl 86 (.tmp 6) (.tmp 14) rfl _ _ zsec zsec HB0.out rfl rfl rfl zsec_size zsec_one ?_; intro w2 hB2 k2 z2; have HB2 := Lib.hid hB2; have HK2 := Lib.hid (HK0.out.since k2 (fun i e => Nat.le_of_eq e.symm)); clear hB2 k2 z2))
    refine bodyPost_ret (results_row_tmp rfl _ _ w.heap.size _ zsec _ rfl HB2.out sec_under rfl zsec_size _ rfl) rfl ⟨?_, HK2.out⟩
    rw [HF.out]; rfl
  | true =>
    rw [hh] at HA
    by_cases hl : 256 < n
    · have HF := Lib.hid (show fill D i b = (z256, 3) by rw [fill, hh, hn, if_pos hl]; rfl)
      have hd : decide ((256 : Int) < (n : Int)) = true := by simp; omega
      clear hh hl
      go_enter Try.func48, Try.ntmps48
      go_wp2_with fail
      refine (HA.out _ HK0.out).mono ?_
      rintro e w1 ⟨rfl, rfl⟩
      go_wp2_with (first
        | (refine wpList_built rfl 86 _ rfl (.agg zsec.toArray) (by exact exec_build _ _ rfl [] _ rfl (zsec_build _)) ?_)
        | (refine wpList_store_blk rfl 86 (.tmp 6) (.tmp 19) rfl _ _ zsec zsec HB0.out rfl rfl rfl zsec_size zsec_one ?_; intro w2 hB2 k2 z2; have HB2 := Lib.hid hB2; have HK2 := Lib.hid (HK0.out.since k2 (fun i e => Nat.le_of_eq e.symm)); clear hB2 k2 z2))
      refine bodyPost_ret (results_row_tmp rfl _ _ w.heap.size _ zsec _ rfl HB2.out sec_under rfl zsec_size _ rfl) rfl ⟨?_, HK2.out⟩
      rw [HF.out]; rfl
    · have HF := Lib.hid (show fill D i b = (full b, 0) by rw [fill, hh, hn, if_neg hl]; rfl)
      have hd : decide ((256 : Int) < (n : Int)) = false := by simp; omega
      have HZF := Lib.hid (zsec_full b (by omega))
      have HLF := Lib.hid (full_length b (by omega))
      have HR := Lib.hid (hr.keep0 ((HK0.out.alloc (.cells zsec.toArray 86))))
      have HL := Lib.hid (show (bvs b).length = Nat.min n 256 by rw [bvs_length, hn]; exact (Nat.min_eq_left (by omega)).symm)
      have HL2 := Lib.hid (show 0 + (bvs b).length ≤ zsec.length by rw [bvs_length, zsec_length]; omega)
      have HB1 := Lib.hid (Blk.new (w.alloc (.cells zsec.toArray 86)) 86 zsec)
      clear hh hl hr
      go_enter Try.func48, Try.ntmps48
      go_wp2_with fail
      refine (HA.out _ HK0.out).mono ?_
      rintro e w1 ⟨rfl, rfl⟩
      go_wp2_with (first
        | (refine wpList_copy_blk rfl (.tmp 20) (.tmp 21) 36 36 rfl 5 u8s_under u8_size (w.heap.size + 1) 0 _ _ _ _ _ _ rfl rfl zsec 86 (by simpa using HB1.out) (bvs b) HL.out (fun _ => rfl) HR.out HL2.out (bvs_one _) ?_
           intro w3 hB3 k3 z3
           rw [HZF.out] at hB3
           have HB3 := Lib.hid hB3
           have HK3 := Lib.hid ((HK0.out.alloc (.cells zsec.toArray 86)).since k3 (fun i e => by have e : i = w.heap.size + 1 := e; omega))
           have HB4 := Lib.hid ((HB0.out.alloc (.cells zsec.toArray 86)).keep k3 (fun e => by have e : w.heap.size = w.heap.size + 1 := e; omega))
           clear hB3 k3 z3)
        | (refine wpList_load_blk rfl 86 (.tmp 8) rfl _ _ _ HB3.out rfl _ sec_under rfl (sec_size' _ HLF.out) ?_)
        | (refine wpList_store_blk rfl 86 (.tmp 6) (.tmp 23) rfl _ _ zsec (bvs (full b)) HB4.out rfl rfl (by rw [bvs_length, HLF.out, zsec_length]) (sec_size' _ HLF.out) (bvs_one _) ?_; intro w2 hB2 k2 z2; have HB2 := Lib.hid hB2; have HK2 := Lib.hid (HK3.out.since k2 (fun i e => Nat.le_of_eq e.symm)); clear hB2 k2 z2))
      refine bodyPost_ret (results_row_tmp rfl _ _ w.heap.size _ (bvs (full b)) _ rfl HB2.out sec_under rfl (sec_size' _ HLF.out) _ rfl) rfl ⟨?_, HK2.out⟩
      rw [HF.out]; rfl
def zwr : List Value := .int .i64 0 :: zsec
theorem zwr_one : ∀ u ∈ zwr, u.oneCell' = true := by
  intro u hu
  rcases List.mem_cons.1 hu with rfl | hu
  · rfl
  · exact zsec_one u hu
theorem zwr_length : zwr.length = 257 := by rw [zwr, List.length_cons, zsec_length]
set_option maxRecDepth 100000 in
theorem zwr_run (w : World) : (zeroValue 91).run Try.prog w = .ok (.agg zwr.toArray) w := by kernel_rfl
theorem wait_at {w : World} {W : Option Addr} {n c : Nat} {xs : List (Nat × List UInt8)} (h : OwnK 257 91 w W n c (xs.flatMap wcell)) (hn : xs.length = n) (hl : ∀ x ∈ xs, x.2.length = 256) (k : Nat) (x : Nat × List UInt8) (hx : xs[k]? = some x) : ∃ b, W = some ⟨b, 0, none⟩ ∧ w.rangeAt b (k * 257) (wcell x) := by
  have hk : k < xs.length := (List.getElem?_eq_some_iff.1 hx).1
  obtain ⟨b, rfl⟩ := h.some_ (by omega)
  obtain ⟨cur, hB, h1, h2, h3, h4⟩ := h.blk
  refine ⟨b, rfl, fun j v hv => ?_⟩
  have hf := fm_part xs (fun a ha => wcell_length a (hl a ha)) k x hx j v hv
  rw [hB.cell]
  rw [← h2, List.getElem?_take] at hf
  split at hf
  · exact hf
  · cases hf
theorem flat_len (ls : List (List UInt8)) (h : ∀ s ∈ ls, s.length = 256) : (ls.flatMap bvs).length = ls.length * 256 := fm_length ls (fun a ha => by rw [bvs_length, h a ha])
theorem flat_set (ls : List (List UInt8)) (h : ∀ s ∈ ls, s.length = 256) (i : Nat) (s : List UInt8) (hi : i < ls.length) (hs : s.length = 256) : splice (ls.flatMap bvs) (i * 256) (bvs s) = (ls.set i s).flatMap bvs := fm_set ls (fun a ha => by rw [bvs_length, h a ha]) i s hi (by rw [bvs_length, hs])
theorem over_256 (keep : Nat) (xs : List (Nat × List UInt8)) (i : Nat) (s : List (List UInt8)) (h1 : ∀ x ∈ xs, x.2.length = 256) (h2 : ∀ v ∈ s, v.length = 256) : ∀ v ∈ over keep i xs s, v.length = 256 := fun v hv => by
  rcases over_mem keep _ _ _ _ hv with h | ⟨x, hx, rfl⟩
  · exact h2 v h
  · exact h1 x hx
theorem back_256 (safe : List (List UInt8)) {n : Nat} (h1 : ∀ v ∈ safe, v.length = 256) (hl : safe.length = n) : ∀ (xs : List (Nat × List UInt8)) (now : List (List UInt8)), (∀ x ∈ xs, x.1 < n) → (∀ v ∈ now, v.length = 256) → ∀ v ∈ back safe xs now, v.length = 256
  | [], _, _, h => h
  | x :: xs, now, hx, h => by
    rw [back]
    refine back_256 safe h1 hl xs _ (fun y hy => hx y (List.mem_cons_of_mem _ hy)) (set_all h ?_)
    have hp : x.1 < safe.length := by rw [hl]; exact hx x (by simp)
    rw [List.getD_eq_getElem?_getD, List.getElem?_eq_getElem hp]
    exact h1 _ (List.getElem_mem hp)
set_option maxHeartbeats 4000000 in
set_option maxRecDepth 100000 in
theorem settle_any (D : Dk) (keep : Nat) (g N S : Nat) (W : Option Addr) (cW : Nat) (w : World) (h : Cd w g N S W cW D) (hw : D.waits.length ≤ 100000) (hk : keep < 18446744073709551616) :
    Calls Try.prog 45 #[.pointer (some ⟨g, 0, none⟩), .int .u64 (keep : Int)] w fun e w' => e = .returned (.tuple #[]) ∧ Cd w' g N S none 0 { D with now := over keep 0 D.waits D.safe, safe := over keep 0 D.waits D.safe, waits := [] } ∧ Kp (dF g N S W) w w' := by
  obtain ⟨c0, c1, c2, c3, c4, c5, c6⟩ := h.cells
  have HD := Lib.hid h
  have HW := Lib.hid hw; have HK := Lib.hid hk
  have HL := Lib.hid (show ∀ x ∈ D.waits, x.2.length = 256 from fun x hx => (h.ok.waits x hx).2)
  have hz := zwr_run
  clear c0 c1 c3 c4 c5 c6 h
  go_enter Try.func45, Try.ntmps45
  go_wp2
  go_loopw [13] (fun vi wr => ∃ (k : Nat), k ≤ D.waits.length ∧ vi = .int .i64 k ∧ Blk wr S 86 ((over keep 0 (D.waits.take k) D.safe).flatMap bvs) ∧ Kp (oneB S) w wr)
    (fun vi _ => D.waits.length - (intOf vi).toNat)
  case atStart => exact ⟨0, by omega, rfl, HD.out.safe, Kp.refl _ _⟩
  case round =>
    obtain ⟨k, hk, rfl, hb, hkp⟩ := hrel
    have HBr := Lib.hid hb; have HKP := Lib.hid hkp
    clear hb hkp
    by_cases hlt : k < D.waits.length
    · obtain ⟨x, hx⟩ : ∃ x, D.waits[k]? = some x := ⟨_, List.getElem?_eq_getElem hlt⟩
      obtain ⟨B, rfl, hrg⟩ := wait_at (HD.out.waits.keep HKP.out (fun j e e2 => (HD.out.nw j e).2.2 e2)) rfl HL.out k x hx
      have HRG := Lib.hid hrg
      have HNX := Lib.hid (over_next keep D.waits D.safe k x hx)
      have HX1 := Lib.hid (show x.1 < D.now.length from (HD.out.ok.waits x (List.mem_of_getElem? hx)).1)
      have HX2 := Lib.hid (HL.out x (List.mem_of_getElem? hx))
      obtain ⟨m, hm⟩ : ∃ m, m = k % 64 := ⟨_, rfl⟩
      obtain ⟨z, hz1, hz2⟩ := kept_bit keep k m hm HK.out
      have e1 : (k : Int).tmod 64 = (m : Int) := by rw [Int.tmod_eq_emod_of_nonneg (by omega)]; omega
      have hmm : min m 64 = m := by omega
      have hwr : IntKind.u64.wrap ((2 : Int) ^ m) = ((2 ^ m : Nat) : Int) := by
        have hp : 2 ^ m < 18446744073709551616 := Nat.pow_lt_pow_right (by decide : 1 < 2) (show m < 64 by omega)
        rw [show ((2 : Int) ^ m) = ((2 ^ m : Nat) : Int) by simp]
        generalize 2 ^ m = q at hp ⊢
        rw [IntKind.wrap_u64]
        omega
      have hb : (bits BinOp.and IntKind.u64 (keep : Int) (IntKind.u64.wrap ((2 : Int) ^ m)) != 0) = kept keep k := by
        rw [hwr, hz1]
        cases hkk : kept keep k with
        | false => rw [hz2.2 hkk]; rfl
        | true =>
          have : z ≠ 0 := fun e => by rw [hz2.1 e] at hkk; cases hkk
          rw [bne_iff_ne]; omega
      have HE := Lib.hid (And.intro e1 hmm)
      clear hm hx hrg hz1 hz2 e1 hmm hwr
      cases hkk : kept keep k with
      | false =>
        have HNN := Lib.hid (show over keep 0 (D.waits.take (k + 1)) D.safe = over keep 0 (D.waits.take k) D.safe by rw [HNX.out, hkk]; rfl)
        rw [hkk] at hb
        have HBB := Lib.hid hb
        clear hkk hb
        go_wp2_with (first
          | (refine wpList_load_mid rfl 91 (.tmp 16) rfl B (k * 257) rfl (wcell x) _ HRG.out wr_under rfl (wr_size' x HX2.out) ?_)
          | (refine wpList_store_blk rfl 91 (.tmp 5) (.tmp 17) rfl _ _ zwr (wcell x) (Blk.new _ _ _) rfl rfl (by rw [wcell_length x HX2.out, zwr_length]) (wr_size' x HX2.out) (wcell_one x) ?_
             intro w5 hB5 k5 z5
             have HK5 := Lib.hid (((Kp.refl nob wr).alloc _).since k5 (fun i e => Nat.le_of_eq e.symm))
             have e1 := HE.out.1; have hmm := HE.out.2; have hb := HBB.out
             clear hB5 k5 z5))
        clear e1 hmm hb
        refine ⟨⟨k + 1, hlt, by go_num, ?_, HKP.out.trans HK5.out (fun _ e => e.elim)⟩, by simp [intOf]; omega⟩
        rw [HNN.out]
        exact HBr.out.keep HK5.out (fun e => e)
      | true =>
        have HNN := Lib.hid (show over keep 0 (D.waits.take (k + 1)) D.safe = (over keep 0 (D.waits.take k) D.safe).set x.1 x.2 by rw [HNX.out, hkk]; rfl)
        rw [hkk] at hb
        have HBB := Lib.hid hb
        have HFS := Lib.hid (flat_set (over keep 0 (D.waits.take k) D.safe) (over_256 keep _ _ _ (fun y hy => HL.out y (List.mem_of_mem_take hy)) HD.out.ok.safe2) x.1 x.2 (by rw [over_length, HD.out.ok.safe]; exact HX1.out) HX2.out)
        have HFL := Lib.hid (show x.1 * 256 + (bvs x.2).length ≤ ((over keep 0 (D.waits.take k) D.safe).flatMap bvs).length by
          rw [flat_len _ (over_256 keep _ _ _ (fun y hy => HL.out y (List.mem_of_mem_take hy)) HD.out.ok.safe2), over_length, HD.out.ok.safe, bvs_length, HX2.out]
          have := HX1.out
          omega)
        have HSZ := Lib.hid (sec_size' x.2 HX2.out)
        clear hkk hb
        go_wp2_with (first
          | (refine wpList_load_mid rfl 91 (.tmp 16) rfl B (k * 257) rfl (wcell x) _ HRG.out wr_under rfl (wr_size' x HX2.out) ?_)
          | (refine wpList_store_blk rfl 91 (.tmp 5) (.tmp 17) rfl _ _ zwr (wcell x) (Blk.new _ _ _) rfl rfl (by rw [wcell_length x HX2.out, zwr_length]) (wr_size' x HX2.out) (wcell_one x) ?_
             intro w5 hB5 k5 z5
             obtain ⟨g5, hg5⟩ : ∃ g, g = wr.heap.size := ⟨_, rfl⟩
             rw [← hg5] at hB5 ⊢
             have HB5 := Lib.hid hB5
             have HK5 := Lib.hid (((Kp.refl nob wr).alloc _).since k5 (fun i e => Nat.le_of_eq e.symm))
             have HG5 := Lib.hid hg5
             have e1 := HE.out.1; have hmm := HE.out.2; have hb := HBB.out
             clear hB5 k5 z5 hg5))
        clear e1 hmm hb
        refine wp_region_still_tail 9 (by kernel_rfl) (by kernel_rfl) ?_
        change wpStill _ _ w5.drew (fun a' => wpList _ _ _ _ a' w5.drew) _ _
        have HB6 := Lib.hid (HB5.out.keep (Kp.refl nob w5).drew (fun e => e))
        have HK6 := Lib.hid HK5.out.drew
        have HS6 := Lib.hid ((HBr.out.keep HK5.out (fun e => e)).keep (Kp.refl nob w5).drew (fun e => e))
        have hc1 : w5.drew.cell? ⟨g, 1, none⟩ = some (.slice (some ⟨S, 0, none⟩) D.now.length D.now.length) := by
          have h1 := HD.out.b.keep (HKP.out.trans HK6.out (fun _ e => e.elim)) (fun e => HD.out.ne.2.1 e.symm)
          rw [h1.cell]; rfl
        have hx0 : w5.drew.cell? ⟨g5, 0, none⟩ = some (.int .i64 (x.1 : Int)) := by rw [HB6.out.cell]; rfl
        have hld := run_loadAt_mid (P := Try.prog) w5.drew g5 1 86 (bvs x.2) _ (HB6.out.part 1 (bvs x.2) (fun j v hv => by rw [Nat.add_comm, wcell, List.getElem?_cons_succ]; exact hv)) sec_under rfl HSZ.out
        have hx1 := HX1.out
        generalize w5.drew = w6 at *
        clear HB5 HK5 HBr
        simp only [List.take_succ_cons, List.take_zero, List.drop_succ_cons, List.drop_zero]
        repeat (first | still_step | (refine wpStill_load rfl 86 (.tmp 30) rfl _ _ rfl hld ?_))
        refine wpStill_nil ?_
        clear hld hx0 hc1 hx1
        go_wp2_with (refine wpList_store_in rfl 86 (.tmp 32) (.tmp 31) rfl S (x.1 * 256) _ _ (bvs x.2) HS6.out rfl rfl HFL.out HSZ.out (bvs_one _) ?_; intro w7 hB7 k7 z7; rw [HFS.out] at hB7; have HB7 := Lib.hid hB7; have HK7 := Lib.hid k7; clear hB7 k7 z7)
        refine ⟨⟨k + 1, hlt, by go_num, ?_, (HKP.out.trans HK6.out (fun _ e => e.elim)).trans HK7.out (fun _ e => .inl e)⟩, by simp [intOf]; omega⟩
        rw [HNN.out]
        exact HB7.out
    · obtain rfl : k = D.waits.length := by omega
      have HS1 := Lib.hid (show Blk wr S 86 ((over keep 0 D.waits D.safe).flatMap bvs) by have := HBr.out; rwa [List.take_length] at this)
      obtain ⟨SF, hSF⟩ : ∃ SF, SF = over keep 0 D.waits D.safe := ⟨_, rfl⟩
      rw [← hSF] at HS1
      have HSF := Lib.hid hSF
      have HSL := Lib.hid (show SF.length = D.now.length by rw [hSF, over_length, HD.out.ok.safe])
      have HS2 := Lib.hid (show ∀ v ∈ SF, v.length = 256 by rw [hSF]; exact over_256 keep _ _ _ HL.out HD.out.ok.safe2)
      have hc2 : wr.cell? ⟨g, 2, none⟩ = some (.slice W D.waits.length cW) := by rw [(HD.out.b.keep HKP.out (fun e => HD.out.ne.2.1 e.symm)).cell]; rfl
      clear hlt hk HBr hSF c2
      rename World => wo
      go_wp2
      go_loopw [39] (fun vi wr => ∃ (k : Nat), k ≤ D.waits.length ∧ vi = .int .i64 k ∧ Blk wr N 86 ((back SF (D.waits.take k) D.now).flatMap bvs) ∧ Kp (oneB N) wo wr)
        (fun vi _ => D.waits.length - (intOf vi).toNat)
      case atStart => exact ⟨0, by omega, rfl, HD.out.now.keep HKP.out (fun e => HD.out.ne.2.2 e), Kp.refl _ _⟩
      case round =>
        obtain ⟨k, hk, rfl, hb, hkp⟩ := hrel
        have HBr := Lib.hid hb; have HKQ := Lib.hid hkp
        clear hb hkp
        by_cases hlt : k < D.waits.length
        · obtain ⟨x, hx⟩ : ∃ x, D.waits[k]? = some x := ⟨_, List.getElem?_eq_getElem hlt⟩
          obtain ⟨B, rfl, hrg⟩ := wait_at ((HD.out.waits.keep HKP.out (fun j e e2 => (HD.out.nw j e).2.2 e2)).keep HKQ.out (fun j e e2 => (HD.out.nw j e).2.1 e2)) rfl HL.out k x hx
          have HRG := Lib.hid hrg
          have HNX := Lib.hid (back_next SF D.waits D.now k x hx)
          have HX1 := Lib.hid (show x.1 < D.now.length from (HD.out.ok.waits x (List.mem_of_getElem? hx)).1)
          have HX2 := Lib.hid (HL.out x (List.mem_of_getElem? hx))
          obtain ⟨v, hv⟩ : ∃ v, SF[x.1]? = some v := ⟨_, List.getElem?_eq_getElem (by rw [HSL.out]; exact HX1.out)⟩
          have HVD := Lib.hid (show SF.getD x.1 [] = v by rw [List.getD_eq_getElem?_getD, hv]; rfl)
          have HV2 := Lib.hid (HS2.out v (List.mem_of_getElem? hv))
          have HVR := Lib.hid (fun j u (hu : (bvs v)[j]? = some u) => fm_part SF (k := 256) (f := bvs) (fun a ha => by rw [bvs_length, HS2.out a ha]) x.1 v hv j u hu)
          have HB2 := Lib.hid (show ∀ s ∈ back SF (D.waits.take k) D.now, s.length = 256 from back_256 SF HS2.out HSL.out _ _ (fun y hy => (HD.out.ok.waits y (List.mem_of_mem_take hy)).1) HD.out.ok.now)
          have HFS := Lib.hid (flat_set (back SF (D.waits.take k) D.now) HB2.out x.1 v (by rw [back_length]; exact HX1.out) HV2.out)
          have HFL := Lib.hid (show x.1 * 256 + (bvs v).length ≤ ((back SF (D.waits.take k) D.now).flatMap bvs).length by
            rw [flat_len _ HB2.out, back_length, bvs_length, HV2.out]
            have := HX1.out
            omega)
          have HSZ := Lib.hid (sec_size' v HV2.out)
          clear hx hrg hv
          go_wp2_with (first
            | (refine wpList_load_mid rfl 91 (.tmp 41) rfl B (k * 257) rfl (wcell x) _ HRG.out wr_under rfl (wr_size' x HX2.out) ?_)
            | (refine wpList_store_blk rfl 91 (.tmp 7) (.tmp 42) rfl _ _ zwr (wcell x) (Blk.new _ _ _) rfl rfl (by rw [wcell_length x HX2.out, zwr_length]) (wr_size' x HX2.out) (wcell_one x) ?_
               intro w5 hB5 k5 z5
               obtain ⟨g5, hg5⟩ : ∃ g, g = wr.heap.size := ⟨_, rfl⟩
               rw [← hg5] at hB5 ⊢
               have HB5 := Lib.hid hB5
               have HK5 := Lib.hid (((Kp.refl nob wr).alloc _).since k5 (fun i e => Nat.le_of_eq e.symm))
               clear hB5 k5 z5 hg5))
          refine wp_region_still_tail 15 (by kernel_rfl) (by kernel_rfl) ?_
          change wpStill _ _ w5.drew (fun a' => wpList _ _ _ _ a' w5.drew) _ _
          have HB6 := Lib.hid (HB5.out.keep (Kp.refl nob w5).drew (fun e => e))
          have HK6 := Lib.hid HK5.out.drew
          have HN6 := Lib.hid ((HBr.out.keep HK5.out (fun e => e)).keep (Kp.refl nob w5).drew (fun e => e))
          have HS6 := Lib.hid ((HS1.out.keep HKQ.out (fun e => HD.out.ne.2.2 e.symm)).keep HK6.out (fun e => e))
          have HD6 := Lib.hid ((HD.out.b.keep HKP.out (fun e => HD.out.ne.2.1 e.symm)).keep (HKQ.out.trans HK6.out (fun _ e => e.elim)) (fun e => HD.out.ne.1 e.symm))
          have hc0 : w5.drew.cell? ⟨g, 0, none⟩ = some (.slice (some ⟨N, 0, none⟩) D.now.length D.now.length) := by rw [HD6.out.cell]; rfl
          have hc1 : w5.drew.cell? ⟨g, 1, none⟩ = some (.slice (some ⟨S, 0, none⟩) D.now.length D.now.length) := by rw [HD6.out.cell]; rfl
          have hx0 : w5.drew.cell? ⟨g5, 0, none⟩ = some (.int .i64 (x.1 : Int)) := by rw [HB6.out.cell]; rfl
          have hld := run_loadAt_mid (P := Try.prog) w5.drew S (x.1 * 256) 86 (bvs v) _ (HS6.out.part _ _ HVR.out) sec_under rfl HSZ.out
          have hx1 := HX1.out
          generalize w5.drew = w6 at *
          clear HB5 HK5 HBr
          simp only [List.take_succ_cons, List.take_zero, List.drop_succ_cons, List.drop_zero]
          repeat (first | still_step | (refine wpStill_load rfl 86 (.tmp 55) rfl _ _ rfl hld ?_))
          refine wpStill_nil ?_
          clear hld hx0 hc1 hx1 hc0
          go_wp2_with (refine wpList_store_in rfl 86 (.tmp 57) (.tmp 56) rfl N (x.1 * 256) _ _ (bvs v) HN6.out rfl rfl HFL.out HSZ.out (bvs_one _) ?_; intro w7 hB7 k7 z7; rw [HFS.out] at hB7; have HB7 := Lib.hid hB7; have HK7 := Lib.hid k7; clear hB7 k7 z7)
          refine ⟨⟨k + 1, hlt, by go_num, ?_, (HKQ.out.trans HK6.out (fun _ e => e.elim)).trans HK7.out (fun _ e => .inl e)⟩, by simp [intOf]; omega⟩
          rw [HNX.out, HVD.out]
          exact HB7.out
        · obtain rfl : k = D.waits.length := by omega
          have HN1 := Lib.hid (show Blk wr N 86 (SF.flatMap bvs) by
            have := HBr.out
            rw [List.take_length, HD.out.al] at this
            rw [HSF.out] at this ⊢
            rwa [back_all] at this)
          have hb2 := (HD.out.b.keep HKP.out (fun e => HD.out.ne.2.1 e.symm)).keep HKQ.out (fun e => HD.out.ne.1 e.symm)
          have HG := Lib.hid hb2
          have HSE := Lib.hid (HS1.out.keep HKQ.out (fun e => HD.out.ne.2.2 e.symm))
          have hc2 : wr.cell? ⟨g, 2, none⟩ = some (.slice W D.waits.length cW) := by rw [hb2.cell]; rfl
          have hf2 : wr.frozen? ⟨g, 2, none⟩ = false := hb2.frozen _
          clear hlt hk HBr hb2
          go_wp2
          have kg : Kp (oneB g) wr (wr.setCell ⟨g, 2, none⟩ (.slice none 0 0)) := (Kp.refl (oneB g) wr).setCell (p := ⟨g, 2, none⟩) (.inl rfl) _
          have hbg := HG.out.set_ 2 (.slice none 0 0)
          have k1 : Kp (dF g N S W) w wo := HKP.out.mono (fun i _ e => .inr (.inr (.inl e)))
          have k2 : Kp (dF g N S W) w wr := k1.trans HKQ.out (fun i e => .inl (.inr (.inl e)))
          have k3 := k2.trans kg (fun i e => .inl (.inl e))
          refine bodyPost_end (results_none rfl _ _ _) rfl ⟨rfl, ?_, k3⟩
          rw [← HSF.out]
          have hn := HN1.out.keep kg HD.out.ne.1
          have hs := HSE.out.keep kg HD.out.ne.2.1
          refine ⟨?_, hn, hs, OwnK.nil 257 _ _, ⟨rfl, HS2.out, HS2.out, fun x hx => by cases hx⟩, rfl, by rw [HSL.out]; exact HD.out.max, HD.out.ne, fun k e => by cases e⟩
          show Blk _ _ _ [.slice _ SF.length SF.length, .slice _ SF.length SF.length, _, _, _, _, _]
          rw [HSL.out]
          exact hbg
set_option maxHeartbeats 2000000 in
set_option maxRecDepth 100000 in
theorem off_any (D : Dk) (keep : Nat) (g N S : Nat) (W : Option Addr) (cW : Nat) (w : World) (h : Cd w g N S W cW D) (hw : D.waits.length ≤ 100000) (hk : keep < 18446744073709551616) :
    Calls Try.prog 21 #[.pointer (some ⟨g, 0, none⟩), .int .u64 (keep : Int)] w fun e w' => e = .returned (.tuple #[]) ∧ Dz w g N S W (lose D keep) w' := by
  have HR := Lib.hid (refused_any D g N S W cW w h)
  have HS := Lib.hid (settle_any D keep g N S W cW w h hw hk)
  have HD := Lib.hid h
  clear h hw hk
  cases ho : D.off with
  | true =>
    rw [ho] at HR
    have HL := Lib.hid (lose_off D keep ho)
    clear ho
    go_enter Try.func21, Try.ntmps21
    go_wp2_with fail
    refine HR.out.mono ?_
    rintro e w1 ⟨rfl, rfl⟩
    go_wp2
    refine bodyPost_ret (results_none rfl _ _ _) rfl ⟨rfl, ?_⟩
    rw [HL.out]; exact HD.out.self
  | false =>
    rw [ho] at HR
    have HL := Lib.hid (lose_on D keep ho)
    clear ho
    go_enter Try.func21, Try.ntmps21
    go_wp2_with fail
    refine HR.out.mono ?_
    rintro e w1 ⟨rfl, rfl⟩
    go_wp2_with fail
    refine HS.out.mono ?_
    rintro e w2 ⟨rfl, h2, k2⟩
    have c3 := h2.cells.2.2.2.1
    have c5 := h2.cells.2.2.2.2.2.1
    have f3 : w2.frozen? ⟨g, 3, none⟩ = false := h2.b.frozen _
    have f5 : w2.frozen? ⟨g, 5, none⟩ = false := h2.b.frozen _
    have H2 := Lib.hid h2; have K2 := Lib.hid k2
    clear h2 k2
    go_wp2
    have kg : Kp (oneB g) w2 ((w2.setCell ⟨g, 3, none⟩ (.bool true)).setCell ⟨g, 5, none⟩ (.int .i64 0)) := ((Kp.refl (oneB g) w2).setCell (p := ⟨g, 3, none⟩) (.inl rfl) _).setCell (p := ⟨g, 5, none⟩) (.inl rfl) _
    have hb := (H2.out.b.set_ 3 (.bool true)).set_ 5 (.int .i64 0)
    refine bodyPost_end (results_none rfl _ _ _) rfl ⟨rfl, ?_⟩
    rw [HL.out]
    refine ⟨none, 0, H2.out.own kg rfl rfl rfl hb, K2.out.trans kg (fun i e => .inl (.inl e)), fun k e => by cases e⟩
theorem act_length (D : Dk) : (act D).1.waits = D.waits := by
  cases ho : D.off with
  | true => rw [act_off D ho]
  | false => rw [act_on D ho]
theorem act_keep (D : Dk) : (act D).1.keep = D.keep := by
  cases ho : D.off with
  | true => rw [act_off D ho]
  | false => rw [act_on D ho]
/-- An act of the disk's own, behind which the power may be off. -/
def acted (D : Dk) : Dk × Int := if (act D).2 then (lose (act D).1 D.keep, 8) else ((act D).1, 0)
set_option maxHeartbeats 2000000 in
theorem actw_any (D : Dk) (g N S : Nat) (W : Option Addr) (cW : Nat) (w : World) (h : Cd w g N S W cW D) (hw : D.waits.length ≤ 100000) (ha : D.acts ≤ 1000000000000) (hf : D.fuse ≤ 9223372036854775807) (hk : D.keep < 18446744073709551616) :
    Calls Try.prog 44 #[.pointer (some ⟨g, 0, none⟩)] w fun e w' => e = .returned (.int .i64 (acted D).2) ∧ Dz w g N S W (acted D).1 w' := by
  have HA := Lib.hid (act1_any D g N S W cW w h ha hf)
  have HD := Lib.hid h
  have HW := Lib.hid hw; have HK := Lib.hid hk
  clear h hw ha hf hk
  cases hg : (act D).2 with
  | false =>
    have HE := Lib.hid (show acted D = ((act D).1, 0) by rw [acted, hg]; rfl)
    rw [told_no D hg] at HA
    clear hg
    go_enter Try.func44, Try.ntmps44
    go_wp2_with fail
    refine HA.out.mono ?_
    rintro e w1 ⟨rfl, h1, k1⟩
    have H1 := Lib.hid h1; have K1 := Lib.hid k1
    clear h1 k1
    go_wp2
    go_ret
    rw [HE.out]
    exact ⟨rfl, W, cW, H1.out, K1.out.mono (fun i _ e => .inl e), fun k e => .inl e⟩
  | true =>
    have HE := Lib.hid (show acted D = (lose (act D).1 D.keep, 8) by rw [acted, hg]; rfl)
    rw [told_yes D hg] at HA
    clear hg
    go_enter Try.func44, Try.ntmps44
    go_wp2_with fail
    refine HA.out.mono ?_
    rintro e w1 ⟨rfl, h1, k1⟩
    have H1 := Lib.hid h1; have K1 := Lib.hid k1
    clear h1 k1
    go_wp2_with fail
    refine (off_any (act D).1 D.keep g N S W cW w1 H1.out (by rw [act_length]; exact HW.out) HK.out).mono ?_
    rintro e w2 ⟨rfl, h2⟩
    have H2 := Lib.hid h2
    clear h2
    go_wp2
    go_ret
    rw [HE.out]
    exact ⟨rfl, Dz.trans (K1.out.mono (fun i _ e => .inl e)) (fun k e => .inl e) H2.out⟩
/-- A list of bytes as a function of places. -/
theorem list_fn (n : Nat) (l : List UInt8) (h : l.length = n) : ∃ f : Fin n → UInt8, l = List.ofFn f := by
  subst h
  refine ⟨fun i => l[i], ?_⟩
  apply List.ext_getElem
  · simp
  · intro i h1 h2; simp
theorem exec_bld {P : Program} {a : Act} {o : Oper} {w w' : World} (t : TypeId) (fs : Array (Nat × Operand)) (ho : o.op = .build t fs) (ps : List (Nat × Value)) (r : Value) (hp : fs.toList.map (fun p => (p.1, a.eval p.2)) = ps) (h : (Instr.build t ps.toArray).run P w = .ok r w') : (execOp a.eval o).run P w = .ok (.value r) w' := by
  subst hp
  have e : (fs.map fun p => (p.1, a.eval p.2)) = (fs.toList.map (fun p => (p.1, a.eval p.2))).toArray := by rw [← Array.toList_map, Array.toArray_toList]
  rw [← e] at h
  simp [execOp, ho, h, Result.andThen]
set_option maxRecDepth 100000 in
theorem build_wr0 (f : Fin 256 → UInt8) (i : Int) (w : World) : (Instr.build 91 #[(0, .int .i64 i), (1, .agg (bvs (List.ofFn f)).toArray)]).run Try.prog w = .ok (.agg (.int .i64 i :: bvs (List.ofFn f)).toArray) w := by kernel_rfl
theorem build_wr (i : Int) (s : List UInt8) (h : s.length = 256) (w : World) : (Instr.build 91 #[(0, .int .i64 i), (1, .agg (bvs s).toArray)]).run Try.prog w = .ok (.agg (.int .i64 i :: bvs s).toArray) w := by
  obtain ⟨f, rfl⟩ := list_fn 256 s h
  exact build_wr0 f i w
set_option maxRecDepth 100000 in
theorem slice_wr0 (f : Fin 256 → UInt8) (i : Int) (w : World) : (Instr.buildSlice 70 1 #[(0, .agg (.int .i64 i :: bvs (List.ofFn f)).toArray)]).run Try.prog w = .ok (.slice (some ⟨w.heap.size, 0, none⟩) 1 1) (w.alloc (.cells (.int .i64 i :: bvs (List.ofFn f)).toArray 91)) := by kernel_rfl
theorem exec_slice_wr {act : Act} {o : Oper} {w : World} (x : Operand) (i : Int) (s : List UInt8) (h : s.length = 256) (ho : o.op = .buildSlice 70 1 #[(0, x)]) (hx : act.eval x = .agg (.int .i64 i :: bvs s).toArray) :
    (execOp act.eval o).run Try.prog w = .ok (.value (.slice (some ⟨w.heap.size, 0, none⟩) 1 1)) (w.alloc (.cells (.int .i64 i :: bvs s).toArray 91)) := by
  obtain ⟨f, rfl⟩ := list_fn 256 s h
  have hr := slice_wr0 f i w
  unfold execOp
  simp only [ho, hx, Sem.run_bind, List.map_toArray, List.map_cons, List.map_nil, hr, Result.andThen_ok, Sem.run_pure]
/-- A value that is told, in a region's head. -/
theorem wpStill_exec {P : Program} {ops : Array Oper} {w : World} {Q : Act → Prop} {a : Act} {o : Oper} {rest : List Oper} (hgd : o.guard = none) (v : Value)
    (hr : (execOp a.eval o).run P w = .ok (.value v) w) (h : wpStill P ops w Q rest (a.put o.dst v)) : wpStill P ops w Q (o :: rest) a :=
  wpStill_step fun K hK => by
    rw [if_pos (by simp [Region.wanted, hgd])]
    unfold Oper.still
    rw [hr, Oper.stillUpon_value]
    exact hK _ h
set_option maxRecDepth 100000 in
theorem wr_info : (Try.prog.info? 91).map (fun i => (i.zero, i.size, i.bytes)) = some (some (.agg zwr.toArray), 257, 264) := by kernel_rfl
theorem wrs_under : Try.prog.underlying 70 = some (.slice 91) := by kernel_rfl
theorem zwr_cells : (Value.agg zwr.toArray).cells.size = 257 := by
  show zwr.toArray.size = 257
  rw [List.size_toArray, zwr_length]
theorem has_of (D : Dk) (p : Nat) (h : p < D.now.length) : has D (p : Int) = true := by unfold has; exact decide_eq_true (by omega)
theorem has_not (D : Dk) (i : Int) (h : i < 0 ∨ (D.now.length : Int) ≤ i) : has D i = false := by unfold has; exact decide_eq_false (by omega)
theorem acted_wrote (D : Dk) (p : Nat) (b : List UInt8) (ho : D.off = false) (hp : p < D.now.length) (hb : b.length ≤ 256) : acted (wrote D p b) = write E8 D (p : Int) b := by
  have e : write E8 D (p : Int) b = if (act D).2 then (lose (wrote (act D).1 p b) D.keep, 8) else (wrote (act D).1 p b, 0) := by
    rw [write, if_neg (by rw [ho]; decide), if_neg (by omega), if_neg (by omega), Int.toNat_natCast]; rfl
  rw [acted, e, act_on (wrote D p b) ho, act_on D ho]
  rfl
/-- What the sectors are behind a write that isn't settled yet. -/
theorem cd_wrote {w w2 : World} {g N S : Nat} {W W2 : Option Addr} {cW c2 : Nat} {D : Dk} (h : Cd w g N S W cW D) (p : Nat) (b : List UInt8) (hp : p < D.now.length) (hb : b.length ≤ 256)
    (hB : Blk w2 g 72 [.slice (some ⟨N, 0, none⟩) D.now.length D.now.length, .slice (some ⟨S, 0, none⟩) D.now.length D.now.length, .slice W2 (D.waits.length + 1) c2, .bool D.off, .int .i64 (D.acts : Int), .int .i64 (D.fuse : Int), .int .u64 (D.keep : Int)])
    (hN : Blk w2 N 86 ((D.now.set p (full b)).flatMap bvs)) (hS : Blk w2 S 86 (D.safe.flatMap bvs)) (hW : OwnK 257 91 w2 W2 (D.waits.length + 1) c2 (D.waits.flatMap wcell ++ wcell (p, full b)))
    (hn : ∀ k, ab W2 = some k → k ≠ g ∧ k ≠ N ∧ k ≠ S) : Cd w2 g N S W2 c2 (wrote D p b) := by
  refine ⟨?_, hN, hS, ?_, wrote_ok D p b h.ok hp hb, ?_, ?_, h.ne, hn⟩
  · show Blk _ _ _ [.slice _ (D.now.set p (full b)).length (D.now.set p (full b)).length, .slice _ (D.now.set p (full b)).length (D.now.set p (full b)).length, .slice W2 (D.waits ++ [(p, full b)]).length c2, _, _, _, _]
    rw [List.length_set, List.length_append]
    exact hB
  · show OwnK _ _ _ _ (D.waits ++ [(p, full b)]).length _ ((D.waits ++ [(p, full b)]).flatMap wcell)
    rw [List.length_append, List.flatMap_append]
    simpa using hW
  · show D.now.set p (full b) = allw (D.waits ++ [(p, full b)]) D.safe
    rw [allw_snoc, ← h.al]
  · show (D.now.set p (full b)).length ≤ 4096
    rw [List.length_set]; exact h.max
set_option maxHeartbeats 4000000 in
set_option maxRecDepth 100000 in
theorem write_no (D : Dk) (i : Int) (A : Option Addr) (n c : Nat) (b : List UInt8) (g N S : Nat) (W : Option Addr) (cW : Nat) (w : World) (h : Cd w g N S W cW D) (hn : b.length = n) (hr : Row w A (bvs b)) (hm : n ≤ maxLen) (hno : D.off = true ∨ (i < 0 ∨ (D.now.length : Int) ≤ i) ∨ 256 < b.length) :
    Calls Try.prog 38 #[.pointer (some ⟨g, 0, none⟩), .int .i64 i, .slice A n c] w fun e w' => e = .returned (.int .i64 (write E8 D i b).2) ∧ (write E8 D i b).1 = D ∧ Kp nob w w' := by
  have HR := Lib.hid (refused_any D g N S W cW w h)
  have HFI := Lib.hid (filled_any D i A n c b g N S W cW w h hn hr hm)
  clear h hr hm
  cases ho : D.off with
  | true =>
    rw [ho] at HR
    have HW := Lib.hid (show write E8 D i b = (D, 8) by rw [write, if_pos ho]; rfl)
    clear ho hno
    go_enter Try.func38, Try.ntmps38
    go_wp2_with fail
    refine HR.out.mono ?_
    rintro e w1 ⟨rfl, rfl⟩
    go_wp2
    go_ret
    rw [HW.out]; exact ⟨rfl, rfl, Kp.refl _ _⟩
  | false =>
    rw [ho] at HR
    have hF : ∃ s k, fill D i b = (s, k) ∧ s.length = 256 ∧ (k == 0) = false ∧ write E8 D i b = (D, k) := by
      by_cases h1 : i < 0 ∨ (D.now.length : Int) ≤ i
      · exact ⟨z256, 1, by rw [fill, has_not D i h1]; rfl, z256_length, rfl, by rw [write, if_neg (by rw [ho]; decide), if_pos h1]; rfl⟩
      · have h2 : 256 < b.length := by
          rcases hno with h | h | h
          · rw [ho] at h; cases h
          · exact absurd h h1
          · exact h
        have hh : has D i = true := by unfold has; exact decide_eq_true (by omega)
        exact ⟨z256, 3, by rw [fill, hh, if_pos h2]; rfl, z256_length, rfl, by rw [write, if_neg (by rw [ho]; decide), if_neg h1, if_pos h2]; rfl⟩
    obtain ⟨s, k, hf, hs, hk, hw⟩ := hF
    rw [hf] at HFI
    have HW := Lib.hid hw; have HSL := Lib.hid hs
    have hz := zsec_run
    clear hf hw ho hno hs
    go_enter Try.func38, Try.ntmps38
    go_wp2_with fail
    refine HR.out.mono ?_
    rintro e w1 ⟨rfl, rfl⟩
    go_wp2_with fail
    refine HFI.out.mono ?_
    rintro e w2 ⟨rfl, k2⟩
    have HK2 := Lib.hid k2
    clear k2
    go_wp2_with (refine wpList_store_blk rfl 86 (.tmp 8) (.tmp 20) rfl _ _ zsec (bvs s) (Blk.new _ _ _) rfl rfl (by rw [bvs_length, HSL.out, zsec_length]) (sec_size' _ HSL.out) (bvs_one _) ?_; intro w3 hB3 k3 z3; have HK3 := Lib.hid ((HK2.out.alloc _).since k3 (fun i e => by have e : i = w2.heap.size := e; have := HK2.out.size; omega)); clear hB3 k3 z3)
    go_ret
    rw [HW.out]; exact ⟨rfl, rfl, HK3.out⟩
set_option maxHeartbeats 4000000 in
set_option maxRecDepth 100000 in
theorem write_yes (D : Dk) (p : Nat) (A : Option Addr) (n c : Nat) (b : List UInt8) (g N S : Nat) (W : Option Addr) (cW : Nat) (w : World) (h : Cd w g N S W cW D) (hn : b.length = n) (hr : Row w A (bvs b)) (ho : D.off = false) (hp : p < D.now.length) (hb : b.length ≤ 256)
    (hw : D.waits.length ≤ 99999) (ha : D.acts ≤ 1000000000000) (hf : D.fuse ≤ 9223372036854775807) (hk : D.keep < 18446744073709551616) :
    Calls Try.prog 38 #[.pointer (some ⟨g, 0, none⟩), .int .i64 (p : Int), .slice A n c] w fun e w' => e = .returned (.int .i64 (write E8 D p b).2) ∧ Dz w g N S W (write E8 D p b).1 w' := by
  have HR := Lib.hid (refused_any D g N S W cW w h)
  rw [ho] at HR
  have HFI := Lib.hid (filled_any D p A n c b g N S W cW w h hn hr (by simp [maxLen]; omega))
  rw [show fill D p b = (full b, 0) by rw [fill, has_of D p hp, if_pos rfl, if_neg (by omega)]] at HFI
  have HE := Lib.hid (acted_wrote D p b ho hp hb)
  rw [← HE.out]
  have HD := Lib.hid h
  have HFB := Lib.hid (full_length b hb)
  have HSZ := Lib.hid (sec_size' _ HFB.out)
  have HP := Lib.hid hp; have HBL := Lib.hid hb; have HWL := Lib.hid hw
  have HAA := Lib.hid (fun (w' : World) (W2 : Option Addr) (c2 : Nat) (h' : Cd w' g N S W2 c2 (wrote D p b)) => actw_any (wrote D p b) g N S W2 c2 w' h' (by show (D.waits ++ [(p, full b)]).length ≤ 100000; rw [List.length_append]; simp; omega) ha hf hk)
  have HFS := Lib.hid (flat_set D.now h.ok.now p (full b) hp HFB.out)
  have HFL := Lib.hid (show p * 256 + (bvs (full b)).length ≤ (D.now.flatMap bvs).length by rw [flat_len _ h.ok.now, bvs_length, HFB.out]; omega)
  obtain ⟨i0, hi, hz0, hz1, hz2⟩ := info_parts3 wr_info
  have HI := Lib.hid (And.intro hi (And.intro hz0 (And.intro hz1 hz2)))
  have hz := zsec_run
  clear h hn hr ho hb hw ha hf hk hi hz0 hz1 hz2
  go_enter Try.func38, Try.ntmps38
  go_wp2_with fail
  refine HR.out.mono ?_
  rintro e w1 ⟨rfl, rfl⟩
  go_wp2_with fail
  refine HFI.out.mono ?_
  rintro e w2 ⟨rfl, k2⟩
  have HK2 := Lib.hid k2
  clear k2
  go_wp2_with (refine wpList_store_blk rfl 86 (.tmp 8) (.tmp 20) rfl _ _ zsec (bvs (full b)) (Blk.new _ _ _) rfl rfl (by rw [bvs_length, HFB.out, zsec_length]) HSZ.out (bvs_one _) ?_
               intro w3 hB3 k3 z3
               obtain ⟨g3, hg3⟩ : ∃ g3, g3 = w2.heap.size := ⟨_, rfl⟩
               rw [← hg3] at hB3 ⊢
               have HB3 := Lib.hid hB3
               have HK3 := Lib.hid ((HK2.out.alloc _).since k3 (fun i e => by have e : i = w2.heap.size := e; have := HK2.out.size; omega))
               have HG3 := Lib.hid (show w.heap.size ≤ g3 by rw [hg3]; exact HK2.out.size)
               clear hB3 k3 z3 hg3)
  -- the sector is written
  refine wp_region_still_tail 7 (by kernel_rfl) (by kernel_rfl) ?_
  change wpStill _ _ w3.drew (fun a' => wpList _ _ _ _ a' w3.drew) _ _
  have HK4 := Lib.hid HK3.out.drew
  have HB4 := Lib.hid (HB3.out.keep (Kp.refl nob w3).drew (fun e => e))
  have HD4 := Lib.hid (HD.out.keep0 HK4.out)
  have hc0 := HD4.out.cells.1
  have hld := run_loadAt_mid (P := Try.prog) w3.drew g3 0 86 (bvs (full b)) _ HB4.out.range sec_under rfl HSZ.out
  generalize w3.drew = w4 at *
  clear HB3 HK3
  simp only [List.take_succ_cons, List.take_zero, List.drop_succ_cons, List.drop_zero]
  repeat (first | still_step | (refine wpStill_load rfl 86 (.tmp 8) rfl _ _ rfl hld ?_))
  refine wpStill_nil ?_
  clear hld hc0
  go_wp2_with (refine wpList_store_in rfl 86 (.tmp 31) (.tmp 30) rfl N (p * 256) _ _ (bvs (full b)) HD4.out.now rfl rfl HFL.out HSZ.out (bvs_one _) ?_; intro w5 hB5 k5 z5; rw [HFS.out] at hB5; have HN5 := Lib.hid hB5; have HK5 := Lib.hid k5; clear hB5 k5 z5)
  have HG5 := Lib.hid (HD4.out.b.keep HK5.out (fun e => HD.out.ne.1 e.symm))
  have HS5 := Lib.hid (HD4.out.safe.keep HK5.out (fun e => HD.out.ne.2.2 e.symm))
  have HW5 := Lib.hid (HD4.out.waits.keep HK5.out (fun j e e2 => (HD.out.nw j e).2.1 e2))
  have HB5 := Lib.hid (HB4.out.keep HK5.out (fun e => by have := HD.out.lt N (.inr (.inl rfl)); have := HG3.out; have e : g3 = N := e; omega))
  have HKW := Lib.hid ((HK4.out.nob (dF g N S W)).trans HK5.out (fun i e => .inl (.inr (.inl e))))
  clear HD4 HB4
  -- it waits
  have HK6 := Lib.hid (Kp.refl nob w5).drew
  have HS6 := Lib.hid (HB5.out.keep HK6.out (fun e => e))
  have HG6 := Lib.hid (HG5.out.keep HK6.out (fun e => e))
  have HOW6 := Lib.hid (HW5.out.keep HK6.out (fun _ _ e => e))
  refine reg_begin (fun w' => Blk w' g3 86 (bvs (full b))) (by kernel_rfl) HS6.out (fun _ => ?_)
  generalize w5.drew = w6 at *
  refine reg_take (v := .pointer (some ⟨g, 0, none⟩)) 0 (some 32) rfl rfl (by kernel_rfl) (by kernel_rfl) (by kernel_rfl) (by rfl) HS6.out (fun w hw => by go_simp) ?_
  simp only [Act.put, List.setIfInBounds_toArray, List.set_cons_zero, List.set_cons_succ]
  refine reg_take (v := .pointer (some ⟨g, 0, none⟩)) 1 (some 33) rfl rfl (by kernel_rfl) (by kernel_rfl) (by kernel_rfl) (by rfl) HS6.out (fun w hw => by go_simp) ?_
  simp only [Act.put, List.setIfInBounds_toArray, List.set_cons_zero, List.set_cons_succ]
  refine reg_take (v := .pointer (some ⟨g, 0, none⟩)) 2 (some 34) rfl rfl (by kernel_rfl) (by kernel_rfl) (by kernel_rfl) (by rfl) HS6.out (fun w hw => by go_simp) ?_
  simp only [Act.put, List.setIfInBounds_toArray, List.set_cons_zero, List.set_cons_succ]
  refine reg_take (v := .pointer (some ⟨g, 2, none⟩)) 3 (some 35) rfl rfl (by kernel_rfl) (by kernel_rfl) (by kernel_rfl) (by rfl) HS6.out (fun w hw => by go_simp) ?_
  simp only [Act.put, List.setIfInBounds_toArray, List.set_cons_zero, List.set_cons_succ]
  refine reg_take (v := .int .i64 (p : Int)) 5 (some 37) rfl rfl (by kernel_rfl) (by kernel_rfl) (by kernel_rfl) (by rfl) HS6.out (fun w hw => by go_simp) ?_
  simp only [Act.put, List.setIfInBounds_toArray, List.set_cons_zero, List.set_cons_succ]
  refine reg_load 6 (some 38) 86 (.tmp 8) rfl rfl rfl (by kernel_rfl) (by kernel_rfl) (by kernel_rfl) (by rfl) HS6.out g3 0 rfl (bvs (full b)) _ (fun w hw => hw.range) sec_under rfl HSZ.out ?_
  simp only [Act.put, List.setIfInBounds_toArray, List.set_cons_zero, List.set_cons_succ]
  refine reg_take (v := .agg (.int .i64 (p : Int) :: bvs (full b)).toArray) 7 (some 39) rfl rfl (by kernel_rfl) (by kernel_rfl) (by kernel_rfl) (by rfl) HS6.out (fun w hw => by exact exec_bld _ _ rfl [(0, .int .i64 (p : Int)), (1, .agg (bvs (full b)).toArray)] _ rfl (build_wr _ _ HFB.out _)) ?_
  simp only [Act.put, List.setIfInBounds_toArray, List.set_cons_zero, List.set_cons_succ]
  have HS7 := Lib.hid (HS6.out.alloc (.cells (.int .i64 (p : Int) :: bvs (full b)).toArray 91))
  have HG7 := Lib.hid (HG6.out.alloc (.cells (.int .i64 (p : Int) :: bvs (full b)).toArray 91))
  have hc6 : w6.cell? ⟨g, 2, none⟩ = some (.slice W D.waits.length cW) := by rw [HG6.out.cell]; rfl
  have hc7 : (w6.alloc (.cells (.int .i64 (p : Int) :: bvs (full b)).toArray 91)).cell? ⟨g, 2, none⟩ = some (.slice W D.waits.length cW) := by rw [HG7.out.cell]; rfl
  refine reg_stepOr (v := .slice W D.waits.length cW) (wi := w6) (u := .slice (some ⟨w6.heap.size, 0, none⟩) 1 1) (wj := w6.alloc (.cells (.int .i64 (p : Int) :: bvs (full b)).toArray 91)) 4 8 (some 36) (some 40) rfl rfl rfl rfl (by kernel_rfl) (by rfl) (by rfl) (by clear hc7; go_simp) (exec_slice_wr (.tmp 39) (p : Int) (full b) HFB.out rfl rfl) HS6.out HS7.out (fun _ => ?_) (fun _ => ?_)
  case' refine_1 =>
    simp only [Act.put, List.setIfInBounds_toArray, List.set_cons_zero, List.set_cons_succ]
    refine reg_step 8 (some 40) rfl rfl (by kernel_rfl) (by rfl) (exec_slice_wr (.tmp 39) (p : Int) (full b) HFB.out rfl rfl) HS7.out (fun _ => ?_)
  case' refine_2 =>
    simp only [Act.put, List.setIfInBounds_toArray, List.set_cons_zero, List.set_cons_succ]
    refine reg_step (w' := w6.alloc (.cells (.int .i64 (p : Int) :: bvs (full b)).toArray 91)) (v := .slice W D.waits.length cW) 4 (some 36) rfl rfl (by kernel_rfl) (by rfl) (by clear hc6; go_simp) HS7.out (fun _ => ?_)
  all_goals
    simp only [Act.put, List.setIfInBounds_toArray, List.set_cons_zero, List.set_cons_succ]
    have HNW := Lib.hid HD.out.nw
    refine reg_appK 9 (some 41) (.tmp 36) (.tmp 40) 70 rfl rfl rfl (by kernel_rfl) (by rfl) 257 (by decide) 91 i0 _ 264 wrs_under HI.out.1 HI.out.2.1 HI.out.2.2.1 HI.out.2.2.2 zwr_cells W D.waits.length cW (D.waits.flatMap wcell) rfl (HOW6.out.alloc _) ⟨w6.heap.size, 0, none⟩ 1 1 (wcell (p, full b)) rfl (by rw [wcell_length _ HFB.out]) (row_new w6 (wcell (p, full b)) _) (wcell_one _) (by have := HWL.out; omega) (by have := HWL.out; omega) ?_
    intro W2 c2 w7 o7 g7 a7
    have hF7 : Kp (fun i => ab W = some i) (w6.alloc (.cells (.int .i64 (p : Int) :: bvs (full b)).toArray 91)) w7 := (Kp.refl _ _).grown g7 (fun k e => .inl e)
    have HS8 := Lib.hid (HS7.out.keep hF7 (fun e => by have := HD.out.waits.lt g3 e; have := HG3.out; omega))
    have HG8 := Lib.hid (HG7.out.keep hF7 (fun e => (HNW.out g e).1 rfl))
    have HK67 : Hid (Kp (fun i => ab W = some i) w6 w7) := Lib.hid (((Kp.refl _ w6).alloc _).trans hF7 (fun i e => .inl e))
    have HO7 := Lib.hid o7
    have hsz6 : w.heap.size ≤ w6.heap.size := Nat.le_trans HKW.out.size HK6.out.size
    have HW7 : Hid (∀ k, ab W2 = some k → ab W = some k ∨ w.heap.size ≤ k) := Lib.hid (fun k e => by
      rcases a7 with h | h
      · exact .inl (by rw [← h]; exact e)
      · rw [h] at e; cases e; right; simp; omega)
    clear o7 g7 a7 hF7
    refine ⟨HS8.out, fun _ => ?_⟩
    simp only [Act.put, List.setIfInBounds_toArray, List.set_cons_zero, List.set_cons_succ]
    refine reg_take (v := .pointer (some ⟨g, 0, none⟩)) 10 (some 42) rfl rfl (by kernel_rfl) (by kernel_rfl) (by kernel_rfl) (by rfl) HS8.out (fun w hw => by go_simp) ?_
    simp only [Act.put, List.setIfInBounds_toArray, List.set_cons_zero, List.set_cons_succ]
    refine reg_take (v := .pointer (some ⟨g, 2, none⟩)) 11 (some 43) rfl rfl (by kernel_rfl) (by kernel_rfl) (by kernel_rfl) (by rfl) HS8.out (fun w hw => by go_simp) ?_
    simp only [Act.put, List.setIfInBounds_toArray, List.set_cons_zero, List.set_cons_succ]
    have HN7 := Lib.hid ((HN5.out.keep HK6.out (fun e => e)).keep HK67.out (fun e => (HNW.out N e).2.1 rfl))
    have HSA7 := Lib.hid ((HS5.out.keep HK6.out (fun e => e)).keep HK67.out (fun e => (HNW.out S e).2.2 rfl))
    have c2' : w7.cell? ⟨g, 2, none⟩ = some (.slice W D.waits.length cW) := by rw [HG8.out.cell]; rfl
    have f2' : w7.frozen? ⟨g, 2, none⟩ = false := HG8.out.frozen _
    have kg : Kp (oneB g) w7 (w7.setCell ⟨g, 2, none⟩ (.slice W2 (D.waits.length + 1) c2)) := (Kp.refl (oneB g) w7).setCell (p := ⟨g, 2, none⟩) (.inl rfl) _
    have hbg := HG8.out.set_ 2 (.slice W2 (D.waits.length + 1) c2)
    have hlt := HD.out.lt
    have hnw2 : ∀ k, ab W2 = some k → k ≠ g ∧ k ≠ N ∧ k ≠ S := fun k e => by
      rcases HW7.out k e with h | h
      · exact HNW.out k h
      · have h1 := hlt g (.inl rfl); have h2 := hlt N (.inr (.inl rfl)); have h3 := hlt S (.inr (.inr (.inl rfl)))
        exact ⟨by omega, by omega, by omega⟩
    have hcd := cd_wrote HD.out p b HP.out HBL.out hbg (HN7.out.keep kg HD.out.ne.1) (HSA7.out.keep kg HD.out.ne.2.1) (HO7.out.keep kg (fun k e e2 => (hnw2 k e).1 e2)) hnw2
    have HCD := Lib.hid hcd
    have HKZ := Lib.hid (((HKW.out.trans HK6.out (fun _ e => e.elim)).trans HK67.out (fun i e => .inl (.inr (.inr (.inr e))))).trans kg (fun i e => .inl (.inl e)))
    have HS9 := Lib.hid (HS8.out.keep kg (fun e => by have h1 := hlt g (.inl rfl); have := HG3.out; have e : g3 = g := e; omega))
    clear hcd hlt hnw2 hbg kg
    refine reg_mute (w' := w7.setCell ⟨g, 2, none⟩ (.slice W2 (D.waits.length + 1) c2)) 12 none rfl rfl (by kernel_rfl) (by rfl) (by go_simp) HS9.out (fun _ => ?_)
    simp only [Act.put, List.setIfInBounds_toArray, List.set_cons_zero, List.set_cons_succ]
    refine reg_end (by kernel_rfl) ?_
    clear c2' f2' hc6 hc7
    go_wp2_with fail
    refine (HAA.out _ W2 c2 HCD.out).mono ?_
    rintro e w8 ⟨rfl, h8⟩
    have H8 := Lib.hid h8
    clear h8
    go_wp2
    go_ret
    exact ⟨rfl, Dz.trans HKZ.out HW7.out H8.out⟩
theorem secs_zero (n : Nat) : (List.replicate n z256).flatMap bvs = List.replicate (n * 256) (bv 0) := by
  induction n with
  | zero => rw [Nat.zero_mul]; rfl
  | succ n ih => rw [List.replicate_succ, List.flatMap_cons, ih, z256, bvs, List.map_replicate, List.replicate_append_replicate, Nat.succ_mul, Nat.add_comm]
theorem zsec_at (j : Nat) (h : j < 256) : zsec.toArray[j]! = bv 0 := by
  have h1 : zsec[j]? = some (bv 0) := by
    rw [zsec, bvs, List.getElem?_map, z256, List.getElem?_replicate, if_pos h]; rfl
  have h2 : zsec.toArray[j]? = some (bv 0) := by rw [List.getElem?_toArray]; exact h1
  rw [getElem!_def, h2]
theorem made_secs (n : Nat) : madeCells zsec.toArray (n * 256) = ((List.replicate n z256).flatMap bvs).toArray := by
  rw [secs_zero]
  have hz : zsec.toArray.size = 256 := by rw [List.size_toArray, zsec_length]
  apply Array.ext_getElem?
  intro i
  rw [madeCells, Array.getElem?_map, List.getElem?_toArray (xs := List.replicate (n * 256) (bv 0)), List.getElem?_replicate]
  by_cases h : i < n * 256
  · rw [Array.getElem?_range, if_pos h, if_pos h, Option.map_some, hz, zsec_at _ (Nat.mod_lt _ (by decide))]
  · rw [Array.getElem?_range, if_neg h, if_neg h]; rfl
theorem secs_under : Try.prog.underlying 69 = some (.slice 86) := by kernel_rfl
set_option maxRecDepth 100000 in
theorem sec_info : (Try.prog.info? 86).map (fun i => (i.zero, i.size, i.bytes)) = some (some (.agg zsec.toArray), 256, 256) := by kernel_rfl
theorem make_secs (n : Nat) (hn : n ≤ 4096) (w : World) : (Instr.makeSlice 69 (.int .i64 (n : Int)) (.int .i64 (n : Int))).run Try.prog w = .ok (.slice (some ⟨w.heap.size, 0, none⟩) n n) (w.alloc (.cells ((List.replicate n z256).flatMap bvs).toArray 86)) := by
  obtain ⟨i0, hi, hz0, hz1, hz2⟩ := info_parts3 sec_info
  have hr := run_make (P := Try.prog) w 69 86 i0 _ secs_under hi hz0 .i64 .i64 n n (by omega) (by omega) (by rw [hz2]; omega) (by omega)
  rw [hz1, Int.toNat_natCast, show (Value.agg zsec.toArray).cells = zsec.toArray from rfl, made_secs] at hr
  exact hr
/-- How many sectors a new disk has. -/
def clamp (n : Int) : Nat := min n.toNat 4096
theorem new_cd {w : World} {g N S n : Nat} (hn : n ≤ 4096) (hB : Blk w g 72 [.slice (some ⟨N, 0, none⟩) n n, .slice (some ⟨S, 0, none⟩) n n, .slice none 0 0, .bool false, .int .i64 0, .int .i64 0, .int .u64 0])
    (hN : Blk w N 86 ((List.replicate n z256).flatMap bvs)) (hS : Blk w S 86 ((List.replicate n z256).flatMap bvs)) (ne : N ≠ g ∧ S ≠ g ∧ N ≠ S) : Cd w g N S none 0 (new n) := by
  refine ⟨?_, hN, hS, OwnK.nil _ _ _, new_ok n, rfl, ?_, ne, fun k e => by cases e⟩
  · show Blk _ _ _ [.slice _ (List.replicate n (full [])).length (List.replicate n (full [])).length, .slice _ (List.replicate n (full [])).length (List.replicate n (full [])).length, _, _, _, _, _]
    rw [List.length_replicate]
    exact hB
  · show (List.replicate n (full [])).length ≤ 4096
    rw [List.length_replicate]; exact hn
/-- A new disk's region: the two rows may be made in either order. -/
theorem dk_cells (N S m : Nat) (w : World) : (Instr.build 72 #[(0, .slice (some ⟨N, 0, none⟩) m m), (1, .slice (some ⟨S, 0, none⟩) m m)]).run Try.prog w = .ok (.agg #[.slice (some ⟨N, 0, none⟩) m m, .slice (some ⟨S, 0, none⟩) m m, .slice none 0 0, .bool false, .int .i64 0, .int .i64 0, .int .u64 0]) w := by kernel_rfl
theorem new_end {a m : Nat} {w w1 : World} {N S : Nat} (hm : m ≤ 4096) (h1 : Kp nob w w1) (ha : w1.heap.size = a) (hNS : (N = a ∧ S = a + 1) ∨ (N = a + 1 ∧ S = a)) :
    Cd (((w1.alloc (.cells ((List.replicate m z256).flatMap bvs).toArray 86)).alloc (.cells ((List.replicate m z256).flatMap bvs).toArray 86)).alloc (.cells #[.slice (some ⟨N, 0, none⟩) m m, .slice (some ⟨S, 0, none⟩) m m, .slice none 0 0, .bool false, .int .i64 0, .int .i64 0, .int .u64 0] 72)) (a + 2) N S none 0 (new m) ∧ Kp nob w (((w1.alloc (.cells ((List.replicate m z256).flatMap bvs).toArray 86)).alloc (.cells ((List.replicate m z256).flatMap bvs).toArray 86)).alloc (.cells #[.slice (some ⟨N, 0, none⟩) m m, .slice (some ⟨S, 0, none⟩) m m, .slice none 0 0, .bool false, .int .i64 0, .int .i64 0, .int .u64 0] 72)) ∧ (∀ k, dF (a + 2) N S none k → w.heap.size ≤ k) := by
  have hs := h1.size
  have b1 : Blk (w1.alloc (.cells ((List.replicate m z256).flatMap bvs).toArray 86)) a 86 ((List.replicate m z256).flatMap bvs) := Blk.new' ha.symm rfl
  have b2 : Blk ((w1.alloc (.cells ((List.replicate m z256).flatMap bvs).toArray 86)).alloc (.cells ((List.replicate m z256).flatMap bvs).toArray 86)) (a + 1) 86 ((List.replicate m z256).flatMap bvs) := Blk.new' (by simp [ha]) rfl
  refine ⟨new_cd hm (Blk.new' (by simp [ha]) rfl) ?_ ?_ ?_, ((h1.alloc _).alloc _).alloc _, ?_⟩
  · rcases hNS with ⟨rfl, rfl⟩ | ⟨rfl, rfl⟩
    · exact (b1.alloc _).alloc _
    · exact b2.alloc _
  · rcases hNS with ⟨rfl, rfl⟩ | ⟨rfl, rfl⟩
    · exact b2.alloc _
    · exact (b1.alloc _).alloc _
  · rcases hNS with ⟨rfl, rfl⟩ | ⟨rfl, rfl⟩ <;> exact ⟨by omega, by omega, by omega⟩
  · intro k e
    rcases e with e | e | e | e
    · omega
    · rcases hNS with ⟨rfl, rfl⟩ | ⟨rfl, rfl⟩ <;> omega
    · rcases hNS with ⟨rfl, rfl⟩ | ⟨rfl, rfl⟩ <;> omega
    · cases e
theorem exec_mk {act : Act} {o : Oper} {w w' : World} {r : Value} (x : Operand) (V : Int) (m : Nat) (ho : o.op = .makeSlice 69 x x) (hx : act.eval x = .int .i64 V) (h : (Instr.makeSlice 69 (.int .i64 V) (.int .i64 V)).run Try.prog w = .ok r w') :
    (execOp act.eval o).run Try.prog w = .ok (.value r) w' := by
  unfold execOp
  simp only [ho, hx, Sem.run_bind, h, Result.andThen_ok, Sem.run_pure]
set_option maxHeartbeats 2000000 in
set_option maxRecDepth 100000 in
theorem new_any (n : Int) (w : World) :
    Calls Try.prog 10 #[.int .i64 n] w fun e w' => ∃ g N S, e = .returned (.pointer (some ⟨g, 0, none⟩)) ∧ Cd w' g N S none 0 (new (clamp n)) ∧ Kp nob w w' ∧ (∀ k, dF g N S none k → w.heap.size ≤ k) := by
  obtain ⟨m, hm⟩ : ∃ m, m = clamp n := ⟨_, rfl⟩
  have h1 : m ≤ 4096 := by rw [hm]; exact Nat.min_le_right _ _
  have hmk0 := fun w => make_secs m h1 w
  rw [← hm]
  have HM := Lib.hid h1
  by_cases hn : n < 0
  · have hmk := fun w => (show _ = _ from hmk0 w)
    rw [show ((m : Nat) : Int) = 0 by unfold clamp at hm; omega] at hmk
    clear hm h1 hmk0
    go_enter Try.func10, Try.ntmps10
    go_wp2
    have HK1 := Lib.hid (Kp.refl nob w).drew
    refine reg_begin (fun _ => True) (by kernel_rfl) trivial (fun _ => ?_)
    obtain ⟨a, ha⟩ : ∃ a, w.drew.heap.size = a := ⟨_, rfl⟩
    have HA := Lib.hid ha
    generalize w.drew = w1 at *
    refine reg_take (v := .int .i64 0) 0 (some 6) rfl rfl (by kernel_rfl) (by kernel_rfl) (by kernel_rfl) (by rfl) trivial (fun w hw => by go_simp) ?_
    simp only [Act.put, List.setIfInBounds_toArray, List.set_cons_zero, List.set_cons_succ]
    refine reg_take (v := .int .i64 0) 2 (some 8) rfl rfl (by kernel_rfl) (by kernel_rfl) (by kernel_rfl) (by rfl) trivial (fun w hw => by go_simp) ?_
    simp only [Act.put, List.setIfInBounds_toArray, List.set_cons_zero, List.set_cons_succ]
    refine reg_stepOr (v := .slice (some ⟨w1.heap.size, 0, none⟩) m m) (wi := w1.alloc (.cells ((List.replicate m z256).flatMap bvs).toArray 86)) (u := .slice (some ⟨w1.heap.size, 0, none⟩) m m) (wj := w1.alloc (.cells ((List.replicate m z256).flatMap bvs).toArray 86)) 1 3 (some 7) (some 9) rfl rfl rfl rfl (by kernel_rfl) (by rfl) (by rfl) (exec_mk (.tmp 6) 0 m rfl rfl (hmk _)) (exec_mk (.tmp 8) 0 m rfl rfl (hmk _)) trivial trivial (fun _ => ?_) (fun _ => ?_)
    case' refine_1 =>
      simp only [Act.put, List.setIfInBounds_toArray, List.set_cons_zero, List.set_cons_succ]
      refine reg_step (v := .slice (some ⟨(w1.alloc (.cells ((List.replicate m z256).flatMap bvs).toArray 86)).heap.size, 0, none⟩) m m) (w' := (w1.alloc (.cells ((List.replicate m z256).flatMap bvs).toArray 86)).alloc (.cells ((List.replicate m z256).flatMap bvs).toArray 86)) 3 (some 9) rfl rfl (by kernel_rfl) (by rfl) (exec_mk (.tmp 8) 0 m rfl rfl (hmk _)) trivial (fun _ => ?_)
      simp only [Act.put, List.setIfInBounds_toArray, List.set_cons_zero, List.set_cons_succ]
      rw [show (w1.alloc (.cells ((List.replicate m z256).flatMap bvs).toArray 86)).heap.size = a + 1 by simp [HA.out], HA.out]
      refine reg_take (v := .agg #[.slice (some ⟨a, 0, none⟩) m m, .slice (some ⟨a + 1, 0, none⟩) m m, .slice none 0 0, .bool false, .int .i64 0, .int .i64 0, .int .u64 0]) 4 (some 10) rfl rfl (by kernel_rfl) (by kernel_rfl) (by kernel_rfl) (by rfl) trivial (fun w hw => by exact exec_bld _ _ rfl [(0, .slice (some ⟨a, 0, none⟩) m m), (1, .slice (some ⟨a + 1, 0, none⟩) m m)] _ rfl (dk_cells _ _ _ _)) ?_
      simp only [Act.put, List.setIfInBounds_toArray, List.set_cons_zero, List.set_cons_succ]
      refine reg_step (v := .pointer (some ⟨((w1.alloc (.cells ((List.replicate m z256).flatMap bvs).toArray 86)).alloc (.cells ((List.replicate m z256).flatMap bvs).toArray 86)).heap.size, 0, none⟩)) (w' := ((w1.alloc (.cells ((List.replicate m z256).flatMap bvs).toArray 86)).alloc (.cells ((List.replicate m z256).flatMap bvs).toArray 86)).alloc (.cells #[.slice (some ⟨a, 0, none⟩) m m, .slice (some ⟨a + 1, 0, none⟩) m m, .slice none 0 0, .bool false, .int .i64 0, .int .i64 0, .int .u64 0] 72)) 5 (some 11) rfl rfl (by kernel_rfl) (by rfl) (by kernel_rfl) trivial (fun _ => ?_)
      simp only [Act.put, List.setIfInBounds_toArray, List.set_cons_zero, List.set_cons_succ]
      rw [show ((w1.alloc (.cells ((List.replicate m z256).flatMap bvs).toArray 86)).alloc (.cells ((List.replicate m z256).flatMap bvs).toArray 86)).heap.size = a + 2 by simp [HA.out]]
      refine reg_take (v := .pointer (some ⟨a + 2, 0, none⟩)) 6 (some 2) rfl rfl (by kernel_rfl) (by kernel_rfl) (by kernel_rfl) (by rfl) trivial (fun w hw => by go_simp) ?_
      simp only [Act.put, List.setIfInBounds_toArray, List.set_cons_zero, List.set_cons_succ]
      refine reg_end (by kernel_rfl) ?_
      go_wp2
      go_ret
      exact ⟨a + 2, a, a + 1, rfl, new_end HM.out HK1.out HA.out (.inl ⟨rfl, rfl⟩)⟩
    case' refine_2 =>
      simp only [Act.put, List.setIfInBounds_toArray, List.set_cons_zero, List.set_cons_succ]
      refine reg_step (v := .slice (some ⟨(w1.alloc (.cells ((List.replicate m z256).flatMap bvs).toArray 86)).heap.size, 0, none⟩) m m) (w' := (w1.alloc (.cells ((List.replicate m z256).flatMap bvs).toArray 86)).alloc (.cells ((List.replicate m z256).flatMap bvs).toArray 86)) 1 (some 7) rfl rfl (by kernel_rfl) (by rfl) (exec_mk (.tmp 6) 0 m rfl rfl (hmk _)) trivial (fun _ => ?_)
      simp only [Act.put, List.setIfInBounds_toArray, List.set_cons_zero, List.set_cons_succ]
      rw [show (w1.alloc (.cells ((List.replicate m z256).flatMap bvs).toArray 86)).heap.size = a + 1 by simp [HA.out], HA.out]
      refine reg_take (v := .agg #[.slice (some ⟨a + 1, 0, none⟩) m m, .slice (some ⟨a, 0, none⟩) m m, .slice none 0 0, .bool false, .int .i64 0, .int .i64 0, .int .u64 0]) 4 (some 10) rfl rfl (by kernel_rfl) (by kernel_rfl) (by kernel_rfl) (by rfl) trivial (fun w hw => by exact exec_bld _ _ rfl [(0, .slice (some ⟨a + 1, 0, none⟩) m m), (1, .slice (some ⟨a, 0, none⟩) m m)] _ rfl (dk_cells _ _ _ _)) ?_
      simp only [Act.put, List.setIfInBounds_toArray, List.set_cons_zero, List.set_cons_succ]
      refine reg_step (v := .pointer (some ⟨((w1.alloc (.cells ((List.replicate m z256).flatMap bvs).toArray 86)).alloc (.cells ((List.replicate m z256).flatMap bvs).toArray 86)).heap.size, 0, none⟩)) (w' := ((w1.alloc (.cells ((List.replicate m z256).flatMap bvs).toArray 86)).alloc (.cells ((List.replicate m z256).flatMap bvs).toArray 86)).alloc (.cells #[.slice (some ⟨a + 1, 0, none⟩) m m, .slice (some ⟨a, 0, none⟩) m m, .slice none 0 0, .bool false, .int .i64 0, .int .i64 0, .int .u64 0] 72)) 5 (some 11) rfl rfl (by kernel_rfl) (by rfl) (by kernel_rfl) trivial (fun _ => ?_)
      simp only [Act.put, List.setIfInBounds_toArray, List.set_cons_zero, List.set_cons_succ]
      rw [show ((w1.alloc (.cells ((List.replicate m z256).flatMap bvs).toArray 86)).alloc (.cells ((List.replicate m z256).flatMap bvs).toArray 86)).heap.size = a + 2 by simp [HA.out]]
      refine reg_take (v := .pointer (some ⟨a + 2, 0, none⟩)) 6 (some 2) rfl rfl (by kernel_rfl) (by kernel_rfl) (by kernel_rfl) (by rfl) trivial (fun w hw => by go_simp) ?_
      simp only [Act.put, List.setIfInBounds_toArray, List.set_cons_zero, List.set_cons_succ]
      refine reg_end (by kernel_rfl) ?_
      go_wp2
      go_ret
      exact ⟨a + 2, a + 1, a, rfl, new_end HM.out HK1.out HA.out (.inr ⟨rfl, rfl⟩)⟩
  · by_cases hb : 4096 < n
    · have hmk := fun w => (show _ = _ from hmk0 w)
      rw [show ((m : Nat) : Int) = 4096 by unfold clamp at hm; omega] at hmk
      have h0 : 0 ≤ n := by omega
      clear hm h1 hmk0 hn
      go_enter Try.func10, Try.ntmps10
      go_wp2
      have HK1 := Lib.hid (Kp.refl nob w).drew
      refine reg_begin (fun _ => True) (by kernel_rfl) trivial (fun _ => ?_)
      obtain ⟨a, ha⟩ : ∃ a, w.drew.heap.size = a := ⟨_, rfl⟩
      have HA := Lib.hid ha
      generalize w.drew = w1 at *
      refine reg_take (v := .int .i64 4096) 0 (some 6) rfl rfl (by kernel_rfl) (by kernel_rfl) (by kernel_rfl) (by rfl) trivial (fun w hw => by go_simp) ?_
      simp only [Act.put, List.setIfInBounds_toArray, List.set_cons_zero, List.set_cons_succ]
      refine reg_take (v := .int .i64 4096) 2 (some 8) rfl rfl (by kernel_rfl) (by kernel_rfl) (by kernel_rfl) (by rfl) trivial (fun w hw => by go_simp) ?_
      simp only [Act.put, List.setIfInBounds_toArray, List.set_cons_zero, List.set_cons_succ]
      refine reg_stepOr (v := .slice (some ⟨w1.heap.size, 0, none⟩) m m) (wi := w1.alloc (.cells ((List.replicate m z256).flatMap bvs).toArray 86)) (u := .slice (some ⟨w1.heap.size, 0, none⟩) m m) (wj := w1.alloc (.cells ((List.replicate m z256).flatMap bvs).toArray 86)) 1 3 (some 7) (some 9) rfl rfl rfl rfl (by kernel_rfl) (by rfl) (by rfl) (exec_mk (.tmp 6) 4096 m rfl rfl (hmk _)) (exec_mk (.tmp 8) 4096 m rfl rfl (hmk _)) trivial trivial (fun _ => ?_) (fun _ => ?_)
      case' refine_1 =>
        simp only [Act.put, List.setIfInBounds_toArray, List.set_cons_zero, List.set_cons_succ]
        refine reg_step (v := .slice (some ⟨(w1.alloc (.cells ((List.replicate m z256).flatMap bvs).toArray 86)).heap.size, 0, none⟩) m m) (w' := (w1.alloc (.cells ((List.replicate m z256).flatMap bvs).toArray 86)).alloc (.cells ((List.replicate m z256).flatMap bvs).toArray 86)) 3 (some 9) rfl rfl (by kernel_rfl) (by rfl) (exec_mk (.tmp 8) 4096 m rfl rfl (hmk _)) trivial (fun _ => ?_)
        simp only [Act.put, List.setIfInBounds_toArray, List.set_cons_zero, List.set_cons_succ]
        rw [show (w1.alloc (.cells ((List.replicate m z256).flatMap bvs).toArray 86)).heap.size = a + 1 by simp [HA.out], HA.out]
        refine reg_take (v := .agg #[.slice (some ⟨a, 0, none⟩) m m, .slice (some ⟨a + 1, 0, none⟩) m m, .slice none 0 0, .bool false, .int .i64 0, .int .i64 0, .int .u64 0]) 4 (some 10) rfl rfl (by kernel_rfl) (by kernel_rfl) (by kernel_rfl) (by rfl) trivial (fun w hw => by exact exec_bld _ _ rfl [(0, .slice (some ⟨a, 0, none⟩) m m), (1, .slice (some ⟨a + 1, 0, none⟩) m m)] _ rfl (dk_cells _ _ _ _)) ?_
        simp only [Act.put, List.setIfInBounds_toArray, List.set_cons_zero, List.set_cons_succ]
        refine reg_step (v := .pointer (some ⟨((w1.alloc (.cells ((List.replicate m z256).flatMap bvs).toArray 86)).alloc (.cells ((List.replicate m z256).flatMap bvs).toArray 86)).heap.size, 0, none⟩)) (w' := ((w1.alloc (.cells ((List.replicate m z256).flatMap bvs).toArray 86)).alloc (.cells ((List.replicate m z256).flatMap bvs).toArray 86)).alloc (.cells #[.slice (some ⟨a, 0, none⟩) m m, .slice (some ⟨a + 1, 0, none⟩) m m, .slice none 0 0, .bool false, .int .i64 0, .int .i64 0, .int .u64 0] 72)) 5 (some 11) rfl rfl (by kernel_rfl) (by rfl) (by kernel_rfl) trivial (fun _ => ?_)
        simp only [Act.put, List.setIfInBounds_toArray, List.set_cons_zero, List.set_cons_succ]
        rw [show ((w1.alloc (.cells ((List.replicate m z256).flatMap bvs).toArray 86)).alloc (.cells ((List.replicate m z256).flatMap bvs).toArray 86)).heap.size = a + 2 by simp [HA.out]]
        refine reg_take (v := .pointer (some ⟨a + 2, 0, none⟩)) 6 (some 2) rfl rfl (by kernel_rfl) (by kernel_rfl) (by kernel_rfl) (by rfl) trivial (fun w hw => by go_simp) ?_
        simp only [Act.put, List.setIfInBounds_toArray, List.set_cons_zero, List.set_cons_succ]
        refine reg_end (by kernel_rfl) ?_
        go_wp2
        go_ret
        exact ⟨a + 2, a, a + 1, rfl, new_end HM.out HK1.out HA.out (.inl ⟨rfl, rfl⟩)⟩
      case' refine_2 =>
        simp only [Act.put, List.setIfInBounds_toArray, List.set_cons_zero, List.set_cons_succ]
        refine reg_step (v := .slice (some ⟨(w1.alloc (.cells ((List.replicate m z256).flatMap bvs).toArray 86)).heap.size, 0, none⟩) m m) (w' := (w1.alloc (.cells ((List.replicate m z256).flatMap bvs).toArray 86)).alloc (.cells ((List.replicate m z256).flatMap bvs).toArray 86)) 1 (some 7) rfl rfl (by kernel_rfl) (by rfl) (exec_mk (.tmp 6) 4096 m rfl rfl (hmk _)) trivial (fun _ => ?_)
        simp only [Act.put, List.setIfInBounds_toArray, List.set_cons_zero, List.set_cons_succ]
        rw [show (w1.alloc (.cells ((List.replicate m z256).flatMap bvs).toArray 86)).heap.size = a + 1 by simp [HA.out], HA.out]
        refine reg_take (v := .agg #[.slice (some ⟨a + 1, 0, none⟩) m m, .slice (some ⟨a, 0, none⟩) m m, .slice none 0 0, .bool false, .int .i64 0, .int .i64 0, .int .u64 0]) 4 (some 10) rfl rfl (by kernel_rfl) (by kernel_rfl) (by kernel_rfl) (by rfl) trivial (fun w hw => by exact exec_bld _ _ rfl [(0, .slice (some ⟨a + 1, 0, none⟩) m m), (1, .slice (some ⟨a, 0, none⟩) m m)] _ rfl (dk_cells _ _ _ _)) ?_
        simp only [Act.put, List.setIfInBounds_toArray, List.set_cons_zero, List.set_cons_succ]
        refine reg_step (v := .pointer (some ⟨((w1.alloc (.cells ((List.replicate m z256).flatMap bvs).toArray 86)).alloc (.cells ((List.replicate m z256).flatMap bvs).toArray 86)).heap.size, 0, none⟩)) (w' := ((w1.alloc (.cells ((List.replicate m z256).flatMap bvs).toArray 86)).alloc (.cells ((List.replicate m z256).flatMap bvs).toArray 86)).alloc (.cells #[.slice (some ⟨a + 1, 0, none⟩) m m, .slice (some ⟨a, 0, none⟩) m m, .slice none 0 0, .bool false, .int .i64 0, .int .i64 0, .int .u64 0] 72)) 5 (some 11) rfl rfl (by kernel_rfl) (by rfl) (by kernel_rfl) trivial (fun _ => ?_)
        simp only [Act.put, List.setIfInBounds_toArray, List.set_cons_zero, List.set_cons_succ]
        rw [show ((w1.alloc (.cells ((List.replicate m z256).flatMap bvs).toArray 86)).alloc (.cells ((List.replicate m z256).flatMap bvs).toArray 86)).heap.size = a + 2 by simp [HA.out]]
        refine reg_take (v := .pointer (some ⟨a + 2, 0, none⟩)) 6 (some 2) rfl rfl (by kernel_rfl) (by kernel_rfl) (by kernel_rfl) (by rfl) trivial (fun w hw => by go_simp) ?_
        simp only [Act.put, List.setIfInBounds_toArray, List.set_cons_zero, List.set_cons_succ]
        refine reg_end (by kernel_rfl) ?_
        go_wp2
        go_ret
        exact ⟨a + 2, a + 1, a, rfl, new_end HM.out HK1.out HA.out (.inr ⟨rfl, rfl⟩)⟩
    · have hmk := fun w => (show _ = _ from hmk0 w)
      rw [show ((m : Nat) : Int) = n by unfold clamp at hm; omega] at hmk
      have h0 : 0 ≤ n := by omega
      have hb' : n ≤ 4096 := by omega
      clear hm h1 hmk0 hn hb
      go_enter Try.func10, Try.ntmps10
      go_wp2
      have HK1 := Lib.hid (Kp.refl nob w).drew
      refine reg_begin (fun _ => True) (by kernel_rfl) trivial (fun _ => ?_)
      obtain ⟨a, ha⟩ : ∃ a, w.drew.heap.size = a := ⟨_, rfl⟩
      have HA := Lib.hid ha
      generalize w.drew = w1 at *
      refine reg_take (v := .int .i64 n) 0 (some 6) rfl rfl (by kernel_rfl) (by kernel_rfl) (by kernel_rfl) (by rfl) trivial (fun w hw => by go_simp) ?_
      simp only [Act.put, List.setIfInBounds_toArray, List.set_cons_zero, List.set_cons_succ]
      refine reg_take (v := .int .i64 n) 2 (some 8) rfl rfl (by kernel_rfl) (by kernel_rfl) (by kernel_rfl) (by rfl) trivial (fun w hw => by go_simp) ?_
      simp only [Act.put, List.setIfInBounds_toArray, List.set_cons_zero, List.set_cons_succ]
      refine reg_stepOr (v := .slice (some ⟨w1.heap.size, 0, none⟩) m m) (wi := w1.alloc (.cells ((List.replicate m z256).flatMap bvs).toArray 86)) (u := .slice (some ⟨w1.heap.size, 0, none⟩) m m) (wj := w1.alloc (.cells ((List.replicate m z256).flatMap bvs).toArray 86)) 1 3 (some 7) (some 9) rfl rfl rfl rfl (by kernel_rfl) (by rfl) (by rfl) (exec_mk (.tmp 6) n m rfl rfl (hmk _)) (exec_mk (.tmp 8) n m rfl rfl (hmk _)) trivial trivial (fun _ => ?_) (fun _ => ?_)
      case' refine_1 =>
        simp only [Act.put, List.setIfInBounds_toArray, List.set_cons_zero, List.set_cons_succ]
        refine reg_step (v := .slice (some ⟨(w1.alloc (.cells ((List.replicate m z256).flatMap bvs).toArray 86)).heap.size, 0, none⟩) m m) (w' := (w1.alloc (.cells ((List.replicate m z256).flatMap bvs).toArray 86)).alloc (.cells ((List.replicate m z256).flatMap bvs).toArray 86)) 3 (some 9) rfl rfl (by kernel_rfl) (by rfl) (exec_mk (.tmp 8) n m rfl rfl (hmk _)) trivial (fun _ => ?_)
        simp only [Act.put, List.setIfInBounds_toArray, List.set_cons_zero, List.set_cons_succ]
        rw [show (w1.alloc (.cells ((List.replicate m z256).flatMap bvs).toArray 86)).heap.size = a + 1 by simp [HA.out], HA.out]
        refine reg_take (v := .agg #[.slice (some ⟨a, 0, none⟩) m m, .slice (some ⟨a + 1, 0, none⟩) m m, .slice none 0 0, .bool false, .int .i64 0, .int .i64 0, .int .u64 0]) 4 (some 10) rfl rfl (by kernel_rfl) (by kernel_rfl) (by kernel_rfl) (by rfl) trivial (fun w hw => by exact exec_bld _ _ rfl [(0, .slice (some ⟨a, 0, none⟩) m m), (1, .slice (some ⟨a + 1, 0, none⟩) m m)] _ rfl (dk_cells _ _ _ _)) ?_
        simp only [Act.put, List.setIfInBounds_toArray, List.set_cons_zero, List.set_cons_succ]
        refine reg_step (v := .pointer (some ⟨((w1.alloc (.cells ((List.replicate m z256).flatMap bvs).toArray 86)).alloc (.cells ((List.replicate m z256).flatMap bvs).toArray 86)).heap.size, 0, none⟩)) (w' := ((w1.alloc (.cells ((List.replicate m z256).flatMap bvs).toArray 86)).alloc (.cells ((List.replicate m z256).flatMap bvs).toArray 86)).alloc (.cells #[.slice (some ⟨a, 0, none⟩) m m, .slice (some ⟨a + 1, 0, none⟩) m m, .slice none 0 0, .bool false, .int .i64 0, .int .i64 0, .int .u64 0] 72)) 5 (some 11) rfl rfl (by kernel_rfl) (by rfl) (by kernel_rfl) trivial (fun _ => ?_)
        simp only [Act.put, List.setIfInBounds_toArray, List.set_cons_zero, List.set_cons_succ]
        rw [show ((w1.alloc (.cells ((List.replicate m z256).flatMap bvs).toArray 86)).alloc (.cells ((List.replicate m z256).flatMap bvs).toArray 86)).heap.size = a + 2 by simp [HA.out]]
        refine reg_take (v := .pointer (some ⟨a + 2, 0, none⟩)) 6 (some 2) rfl rfl (by kernel_rfl) (by kernel_rfl) (by kernel_rfl) (by rfl) trivial (fun w hw => by go_simp) ?_
        simp only [Act.put, List.setIfInBounds_toArray, List.set_cons_zero, List.set_cons_succ]
        refine reg_end (by kernel_rfl) ?_
        go_wp2
        go_ret
        exact ⟨a + 2, a, a + 1, rfl, new_end HM.out HK1.out HA.out (.inl ⟨rfl, rfl⟩)⟩
      case' refine_2 =>
        simp only [Act.put, List.setIfInBounds_toArray, List.set_cons_zero, List.set_cons_succ]
        refine reg_step (v := .slice (some ⟨(w1.alloc (.cells ((List.replicate m z256).flatMap bvs).toArray 86)).heap.size, 0, none⟩) m m) (w' := (w1.alloc (.cells ((List.replicate m z256).flatMap bvs).toArray 86)).alloc (.cells ((List.replicate m z256).flatMap bvs).toArray 86)) 1 (some 7) rfl rfl (by kernel_rfl) (by rfl) (exec_mk (.tmp 6) n m rfl rfl (hmk _)) trivial (fun _ => ?_)
        simp only [Act.put, List.setIfInBounds_toArray, List.set_cons_zero, List.set_cons_succ]
        rw [show (w1.alloc (.cells ((List.replicate m z256).flatMap bvs).toArray 86)).heap.size = a + 1 by simp [HA.out], HA.out]
        refine reg_take (v := .agg #[.slice (some ⟨a + 1, 0, none⟩) m m, .slice (some ⟨a, 0, none⟩) m m, .slice none 0 0, .bool false, .int .i64 0, .int .i64 0, .int .u64 0]) 4 (some 10) rfl rfl (by kernel_rfl) (by kernel_rfl) (by kernel_rfl) (by rfl) trivial (fun w hw => by exact exec_bld _ _ rfl [(0, .slice (some ⟨a + 1, 0, none⟩) m m), (1, .slice (some ⟨a, 0, none⟩) m m)] _ rfl (dk_cells _ _ _ _)) ?_
        simp only [Act.put, List.setIfInBounds_toArray, List.set_cons_zero, List.set_cons_succ]
        refine reg_step (v := .pointer (some ⟨((w1.alloc (.cells ((List.replicate m z256).flatMap bvs).toArray 86)).alloc (.cells ((List.replicate m z256).flatMap bvs).toArray 86)).heap.size, 0, none⟩)) (w' := ((w1.alloc (.cells ((List.replicate m z256).flatMap bvs).toArray 86)).alloc (.cells ((List.replicate m z256).flatMap bvs).toArray 86)).alloc (.cells #[.slice (some ⟨a + 1, 0, none⟩) m m, .slice (some ⟨a, 0, none⟩) m m, .slice none 0 0, .bool false, .int .i64 0, .int .i64 0, .int .u64 0] 72)) 5 (some 11) rfl rfl (by kernel_rfl) (by rfl) (by kernel_rfl) trivial (fun _ => ?_)
        simp only [Act.put, List.setIfInBounds_toArray, List.set_cons_zero, List.set_cons_succ]
        rw [show ((w1.alloc (.cells ((List.replicate m z256).flatMap bvs).toArray 86)).alloc (.cells ((List.replicate m z256).flatMap bvs).toArray 86)).heap.size = a + 2 by simp [HA.out]]
        refine reg_take (v := .pointer (some ⟨a + 2, 0, none⟩)) 6 (some 2) rfl rfl (by kernel_rfl) (by kernel_rfl) (by kernel_rfl) (by rfl) trivial (fun w hw => by go_simp) ?_
        simp only [Act.put, List.setIfInBounds_toArray, List.set_cons_zero, List.set_cons_succ]
        refine reg_end (by kernel_rfl) ?_
        go_wp2
        go_ret
        exact ⟨a + 2, a + 1, a, rfl, new_end HM.out HK1.out HA.out (.inr ⟨rfl, rfl⟩)⟩
end Go.Proofs.Ytndkmfflpphoiaa.Disk
