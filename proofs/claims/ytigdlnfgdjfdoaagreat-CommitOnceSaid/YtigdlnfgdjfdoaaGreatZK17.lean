/- Lemmas: Gf FieldS FieldT FieldW DskB DskC. -/
import Derived.Test.YtigdlnfgdjfdoaaGreatZK11
import Derived.Test.YtigdlnfgdjfdoaaGreatZK16
import GoSem.Core.Next
import Derived.Laws.ResultCell
set_option maxHeartbeats 4000000
set_option maxRecDepth 100000
set_option linter.unusedVariables false
set_option linter.unusedSimpArgs false
namespace Go.Proofs.YtigdlnfgdjfdoaaGreat
namespace Gf
def Add (f : Nat → Nat) : Prop := ∀ a b, f (a ^^^ b) = f a ^^^ f b
variable (d p : Nat)
def xt (a : Nat) : Nat := (2 * a) % 2 ^ d ^^^ (if a.testBit (d - 1) then p else 0)
def xts : Nat → Nat → Nat
 | 0, a => a
 | n + 1, a => xt d p (xts n a)
def mulN (a b : Nat) : Nat → Nat
 | 0 => 0
 | n + 1 => mulN a b n ^^^ (if b.testBit n then xts d p n a else 0)
def mul (a b : Nat) : Nat := mulN d p a b d
def sq (a : Nat) : Nat := mul d p a a
end Gf
namespace Field
open Gf
def up (a b : Nat) : Nat → Nat
 | 0 => 0
 | i + 1 => if b / 2 ^ i % 2 = 1 then up a b i ^^^ (a * 2 ^ i) else up a b i
def down (x : Nat) : Nat → Nat
 | 0 => x
 | k + 1 => if down x k / 2 ^ (15 - k) % 2 = 1 then down x k ^^^ (283 * 2 ^ (7 - k)) else down x k
def long (a b : Nat) : Nat := down (up a b 8) 8
def tm (a b : UInt8) : UInt8 := UInt8.ofNat (mul 8 27 a.toNat b.toNat)
def invs : List Nat := [0, 1, 141, 246, 203, 82, 123, 209, 232, 79, 41, 192, 176, 225, 229, 199, 116, 180, 170, 75, 153, 43, 96, 95, 88, 63, 253, 204, 255, 64, 238, 178, 58, 110, 90, 241, 85, 77, 168, 201, 193, 10, 152, 21, 48, 68, 162, 194, 44, 69, 146, 108, 243, 57, 102, 66, 242, 53, 32, 111, 119, 187, 89, 25, 29, 254, 55, 103, 45, 49, 245, 105, 167, 100, 171, 19, 84, 37, 233, 9, 237, 92, 5, 202, 76, 36, 135, 191, 24, 62, 34, 240, 81, 236, 97, 23, 22, 94, 175, 211, 73, 166, 54, 67, 244, 71, 145, 223, 51, 147, 33, 59, 121, 183, 151, 133, 16, 181, 186, 60, 182, 112, 208, 6, 161, 250, 129, 130, 131, 126, 127, 128, 150, 115, 190, 86, 155, 158, 149, 217, 247, 2, 185, 164, 222, 106, 50, 109, 216, 138, 132, 114, 42, 20, 159, 136, 249, 220, 137, 154, 251, 124, 46, 195, 143, 184, 101, 72, 38, 200, 18, 74, 206, 231, 210, 98, 12, 224, 31, 239, 17, 117, 120, 113, 165, 142, 118, 61, 189, 188, 134, 87, 11, 40, 47, 163, 218, 212, 228, 15, 169, 39, 83, 4, 27, 252, 172, 230, 122, 7, 174, 99, 197, 219, 226, 234, 148, 139, 196, 213, 157, 248, 144, 107, 177, 13, 214, 235, 198, 14, 207, 173, 8, 78, 215, 227, 93, 80, 30, 179, 91, 35, 56, 52, 104, 70, 3, 140, 221, 156, 125, 160, 205, 26, 65, 28]
def inv (a : UInt8) : UInt8 := UInt8.ofNat (invs.getD a.toNat 0)
def bendBit (c i : Nat) : Nat := (99 / 2 ^ i % 2 + c / 2 ^ (i % 8) % 2 + c / 2 ^ ((i + 4) % 8) % 2 + c / 2 ^ ((i + 5) % 8) % 2 + c / 2 ^ ((i + 6) % 8) % 2 + c / 2 ^ ((i + 7) % 8) % 2) % 2
def bendN (c : Nat) : Nat → Nat
 | 0 => 0
 | i + 1 => bendN c i + bendBit c i * 2 ^ i
def bend (c : UInt8) : UInt8 := UInt8.ofNat (bendN c.toNat 8)
def box (a : UInt8) : UInt8 := bend (inv a)
def backs : List Nat := [82, 9, 106, 213, 48, 54, 165, 56, 191, 64, 163, 158, 129, 243, 215, 251, 124, 227, 57, 130, 155, 47, 255, 135, 52, 142, 67, 68, 196, 222, 233, 203, 84, 123, 148, 50, 166, 194, 35, 61, 238, 76, 149, 11, 66, 250, 195, 78, 8, 46, 161, 102, 40, 217, 36, 178, 118, 91, 162, 73, 109, 139, 209, 37, 114, 248, 246, 100, 134, 104, 152, 22, 212, 164, 92, 204, 93, 101, 182, 146, 108, 112, 72, 80, 253, 237, 185, 218, 94, 21, 70, 87, 167, 141, 157, 132, 144, 216, 171, 0, 140, 188, 211, 10, 247, 228, 88, 5, 184, 179, 69, 6, 208, 44, 30, 143, 202, 63, 15, 2, 193, 175, 189, 3, 1, 19, 138, 107, 58, 145, 17, 65, 79, 103, 220, 234, 151, 242, 207, 206, 240, 180, 230, 115, 150, 172, 116, 34, 231, 173, 53, 133, 226, 249, 55, 232, 28, 117, 223, 110, 71, 241, 26, 113, 29, 41, 197, 137, 111, 183, 98, 14, 170, 24, 190, 27, 252, 86, 62, 75, 198, 210, 121, 32, 154, 219, 192, 254, 120, 205, 90, 244, 31, 221, 168, 51, 136, 7, 199, 49, 177, 18, 16, 89, 39, 128, 236, 95, 96, 81, 127, 169, 25, 181, 74, 13, 45, 229, 122, 159, 147, 201, 156, 239, 160, 224, 59, 77, 174, 42, 245, 176, 200, 235, 187, 60, 131, 83, 153, 97, 23, 43, 4, 126, 186, 119, 214, 38, 225, 105, 20, 99, 85, 33, 12, 125]
def back (b : UInt8) : UInt8 := UInt8.ofNat (backs.getD b.toNat 0)
attribute [irreducible] bendN bendBit
end Field
namespace Field
open Go Go.RowKit Kit Gf
def keep (a b : UInt8) : UInt8 := a &&& -b
def cb (a : UInt8) : Int := (a.toNat : Int)
end Field
namespace Field
open Go Go.RowKit Kit
end Field
namespace Disk
open Go Go.RowKit Kit
theorem results_row_tmp {P : Program} {fn : Func} {p u : Tmp} {ty : TypeId} (h : fn.results = #[.cell p ty, .tmp u]) (tmps : Array Value) (w : World) (g : Nat) (t : TypeId) (cs : List Value) (d : TypeDesc)
    (hp : tmps.getD p undef = .pointer (some ⟨g, 0, none⟩)) (hg : Blk w g t cs) (hu : P.underlying ty = some d) (hd : d.isRow = true) (hi : (P.info? ty).map (·.size) = some cs.length) (v : Value) (hv : tmps.getD u undef = v) :
    (results fn tmps).run P w = .ok (.tuple #[.agg cs.toArray, v]) w := by
 rw [results_cell_tmp h, hp, hv]
 simp [asAddr, run_loadVar_mid w g 0 ty cs d hg.range hu hd hi, Result.andThen]
def z256 : List UInt8 := List.replicate 256 0
theorem z256_length : z256.length = 256 := List.length_replicate
def zsec : List Value := bvs z256
theorem zsec_length : zsec.length = 256 := by rw [zsec, bvs_length, z256_length]
theorem zsec_one : ∀ u ∈ zsec, u.oneCell' = true := bvs_one _
theorem zsec_run (w : World) : (zeroValue 90).run Tryz.prog w = .ok (.agg zsec.toArray) w := by kernel_rfl
theorem zsec_build (w : World) : (Instr.build 90 #[]).run Tryz.prog w = .ok (.agg zsec.toArray) w := by kernel_rfl
theorem zsec_size : (Tryz.prog.info? 90).map (·.size) = some zsec.length := by rw [zsec_length]; exact sec_size
theorem zsec_full (b : List UInt8) (h : b.length ≤ 256) : splice zsec 0 (bvs b) = bvs (full b) := by
 rw [splice, full, bvs_append, zsec, List.take_zero, List.nil_append, Nat.zero_add, bvs_length]
 congr 1
 rw [bvs, ← List.map_drop, z256, List.drop_replicate]
 rfl
def fill (D : Dk) (i : Int) (b : List UInt8) : List UInt8 × Int := if has D i then (if 256 < b.length then (z256, 3) else (full b, 0)) else (z256, 1)
theorem filled_any (D : Dk) (i : Int) (A : Option Addr) (n c : Nat) (b : List UInt8) (g N S : Nat) (W : Option Addr) (cW : Nat) (w : World) (h : Cd w g N S W cW D) (hn : b.length = n) (hr : Row w A (bvs b)) (hm : n ≤ maxLen) :
    Calls Tryz.prog 38 #[.pointer (some ⟨g, 0, none⟩), .int .i64 i, .slice A n c] w fun e w' => e = .returned (.tuple #[.agg (bvs (fill D i b).1).toArray, .int .i64 (fill D i b).2]) ∧ Kp nob w w' := by
 have hz := zsec_run
 have HA := Lib.hid (fun w' k => has_any D i g N S W cW w' (h.keep0 (w2 := w') k))
 have HK0 := Lib.hid ((Kp.refl nob w).alloc (.cells zsec.toArray 90))
 have HB0 := Lib.hid (Blk.new w 90 zsec)
 cases hh : has D i with
 | false =>
   have HF := Lib.hid (show fill D i b = (z256, 1) by rw [fill, hh]; rfl)
   rw [hh] at HA
   clear hh
   go_enter Tryz.func38, Tryz.ntmps38
   go_wp2_with fail
   refine (HA.out _ HK0.out).mono ?_
   rintro e w1 ⟨rfl, rfl⟩
   go_wp2_with (first
    | (refine wpList_built rfl 90 _ rfl (.agg zsec.toArray) (by exact exec_build _ _ rfl [] _ rfl (zsec_build _)) ?_)
    | (refine wpList_store_blk rfl 90 (.tmp 6) (.tmp 14) rfl _ _ zsec zsec HB0.out rfl rfl rfl zsec_size zsec_one ?_; intro w2 hB2 k2 z2; have HB2 := Lib.hid hB2; have HK2 := Lib.hid (HK0.out.since k2 (fun i e => Nat.le_of_eq e.symm)); clear hB2 k2 z2))
   refine bodyPost_ret (results_row_tmp rfl _ _ w.heap.size _ zsec _ rfl HB2.out sec_under rfl zsec_size _ rfl) rfl ⟨?_, HK2.out⟩
   rw [HF.out]; rfl
 | true =>
   rw [hh] at HA
   by_cases hl : 256 < n
   · have HF := Lib.hid (show fill D i b = (z256, 3) by rw [fill, hh, hn, if_pos hl]; rfl)
     have hd : decide ((256 : Int) < (n : Int)) = true := by simp; omega
     clear hh hl
     go_enter Tryz.func38, Tryz.ntmps38
     go_wp2_with fail
     refine (HA.out _ HK0.out).mono ?_
     rintro e w1 ⟨rfl, rfl⟩
     go_wp2_with (first
      | (refine wpList_built rfl 90 _ rfl (.agg zsec.toArray) (by exact exec_build _ _ rfl [] _ rfl (zsec_build _)) ?_)
      | (refine wpList_store_blk rfl 90 (.tmp 6) (.tmp 19) rfl _ _ zsec zsec HB0.out rfl rfl rfl zsec_size zsec_one ?_; intro w2 hB2 k2 z2; have HB2 := Lib.hid hB2; have HK2 := Lib.hid (HK0.out.since k2 (fun i e => Nat.le_of_eq e.symm)); clear hB2 k2 z2))
     refine bodyPost_ret (results_row_tmp rfl _ _ w.heap.size _ zsec _ rfl HB2.out sec_under rfl zsec_size _ rfl) rfl ⟨?_, HK2.out⟩
     rw [HF.out]; rfl
   · have HF := Lib.hid (show fill D i b = (full b, 0) by rw [fill, hh, hn, if_neg hl]; rfl)
     have hd : decide ((256 : Int) < (n : Int)) = false := by simp; omega
     have HZF := Lib.hid (zsec_full b (by omega))
     have HLF := Lib.hid (full_length b (by omega))
     have HR := Lib.hid (hr.keep0 ((HK0.out.alloc (.cells zsec.toArray 90))))
     have HL := Lib.hid (show (bvs b).length = Nat.min n 256 by rw [bvs_length, hn]; exact (Nat.min_eq_left (by omega)).symm)
     have HL2 := Lib.hid (show 0 + (bvs b).length ≤ zsec.length by rw [bvs_length, zsec_length]; omega)
     have HB1 := Lib.hid (Blk.new (w.alloc (.cells zsec.toArray 90)) 90 zsec)
     clear hh hl hr
     go_enter Tryz.func38, Tryz.ntmps38
     go_wp2_with fail
     refine (HA.out _ HK0.out).mono ?_
     rintro e w1 ⟨rfl, rfl⟩
     go_wp2_with (first
      | (refine wpList_copy_blk rfl (.tmp 20) (.tmp 21) 58 58 rfl 5 u8s_under u8_size (w.heap.size + 1) 0 _ _ _ _ _ _ rfl rfl zsec 90 (by simpa using HB1.out) (bvs b) HL.out (fun _ => rfl) HR.out HL2.out (bvs_one _) ?_
         intro w3 hB3 k3 z3
         rw [HZF.out] at hB3
         have HB3 := Lib.hid hB3
         have HK3 := Lib.hid ((HK0.out.alloc (.cells zsec.toArray 90)).since k3 (fun i e => by have e : i = w.heap.size + 1 := e; omega))
         have HB4 := Lib.hid ((HB0.out.alloc (.cells zsec.toArray 90)).keep k3 (fun e => by have e : w.heap.size = w.heap.size + 1 := e; omega))
         clear hB3 k3 z3)
      | (refine wpList_load_blk rfl 90 (.tmp 8) rfl _ _ _ HB3.out rfl _ sec_under rfl (sec_size' _ HLF.out) ?_)
      | (refine wpList_store_blk rfl 90 (.tmp 6) (.tmp 23) rfl _ _ zsec (bvs (full b)) HB4.out rfl rfl (by rw [bvs_length, HLF.out, zsec_length]) (sec_size' _ HLF.out) (bvs_one _) ?_; intro w2 hB2 k2 z2; have HB2 := Lib.hid hB2; have HK2 := Lib.hid (HK3.out.since k2 (fun i e => Nat.le_of_eq e.symm)); clear hB2 k2 z2))
     refine bodyPost_ret (results_row_tmp rfl _ _ w.heap.size _ (bvs (full b)) _ rfl HB2.out sec_under rfl (sec_size' _ HLF.out) _ rfl) rfl ⟨?_, HK2.out⟩
     rw [HF.out]; rfl
def zwr : List Value := .int .i64 0 :: zsec
theorem zwr_length : zwr.length = 257 := by rw [zwr, List.length_cons, zsec_length]
theorem zwr_run (w : World) : (zeroValue 95).run Tryz.prog w = .ok (.agg zwr.toArray) w := by kernel_rfl
theorem wait_at {w : World} {W : Option Addr} {n c : Nat} {xs : List (Nat × List UInt8)} (h : OwnK 257 95 w W n c (xs.flatMap wcell)) (hn : xs.length = n) (hl : ∀ x ∈ xs, x.2.length = 256) (k : Nat) (x : Nat × List UInt8) (hx : xs[k]? = some x) : ∃ b, W = some ⟨b, 0, none⟩ ∧ w.rangeAt b (k * 257) (wcell x) := by
 have hk : k < xs.length := (List.getElem?_eq_some_iff.1 hx).1
 obtain ⟨b, rfl⟩ := h.some_ (by omega)
 obtain ⟨cur, hB, h1, h2, h3, h4⟩ := h.blk
 refine ⟨b, rfl, fun j v hv => ?_⟩
 have hf := fm_part xs (fun a ha => wcell_length a (hl a ha)) k x hx j v hv
 rw [hB.cell]
 rw [← h2, List.getElem?_take] at hf
 split at hf
 · exact hf
 · cases hf
theorem flat_len (ls : List (List UInt8)) (h : ∀ s ∈ ls, s.length = 256) : (ls.flatMap bvs).length = ls.length * 256 := fm_length ls (fun a ha => by rw [bvs_length, h a ha])
theorem flat_set (ls : List (List UInt8)) (h : ∀ s ∈ ls, s.length = 256) (i : Nat) (s : List UInt8) (hi : i < ls.length) (hs : s.length = 256) : splice (ls.flatMap bvs) (i * 256) (bvs s) = (ls.set i s).flatMap bvs := fm_set ls (fun a ha => by rw [bvs_length, h a ha]) i s hi (by rw [bvs_length, hs])
theorem over_256 (keep : Nat) (xs : List (Nat × List UInt8)) (i : Nat) (s : List (List UInt8)) (h1 : ∀ x ∈ xs, x.2.length = 256) (h2 : ∀ v ∈ s, v.length = 256) : ∀ v ∈ over keep i xs s, v.length = 256 := fun v hv => by
 rcases over_mem keep _ _ _ _ hv with h | ⟨x, hx, rfl⟩
 · exact h2 v h
 · exact h1 x hx
theorem back_256 (safe : List (List UInt8)) {n : Nat} (h1 : ∀ v ∈ safe, v.length = 256) (hl : safe.length = n) : ∀ (xs : List (Nat × List UInt8)) (now : List (List UInt8)), (∀ x ∈ xs, x.1 < n) → (∀ v ∈ now, v.length = 256) → ∀ v ∈ back safe xs now, v.length = 256
 | [], _, _, h => h
 | x :: xs, now, hx, h => by
   rw [back]
   refine back_256 safe h1 hl xs _ (fun y hy => hx y (List.mem_cons_of_mem _ hy)) (set_all h ?_)
   have hp : x.1 < safe.length := by rw [hl]; exact hx x (by simp)
   rw [List.getD_eq_getElem?_getD, List.getElem?_eq_getElem hp]
   exact h1 _ (List.getElem_mem hp)
theorem settle_any (D : Dk) (keep : Nat) (g N S : Nat) (W : Option Addr) (cW : Nat) (w : World) (h : Cd w g N S W cW D) (hw : D.waits.length ≤ 100000) (hk : keep < 18446744073709551616) :
    Calls Tryz.prog 37 #[.pointer (some ⟨g, 0, none⟩), .int .u64 (keep : Int)] w fun e w' => e = .returned (.tuple #[]) ∧ Cd w' g N S none 0 { D with now := over keep 0 D.waits D.safe, safe := over keep 0 D.waits D.safe, waits := [] } ∧ Kp (dF g N S W) w w' := by
 obtain ⟨c0, c1, c2, c3, c4, c5, c6⟩ := h.cells
 have HD := Lib.hid h
 have HW := Lib.hid hw; have HK := Lib.hid hk
 have HL := Lib.hid (show ∀ x ∈ D.waits, x.2.length = 256 from fun x hx => (h.ok.waits x hx).2)
 have hz := zwr_run
 clear c0 c1 c3 c4 c5 c6 h
 go_enter Tryz.func37, Tryz.ntmps37
 go_wp2
 go_loopw [13] (fun vi wr => ∃ (k : Nat), k ≤ D.waits.length ∧ vi = .int .i64 k ∧ Blk wr S 90 ((over keep 0 (D.waits.take k) D.safe).flatMap bvs) ∧ Kp (oneB S) w wr)
  (fun vi _ => D.waits.length - (intOf vi).toNat)
 case atStart => exact ⟨0, by omega, rfl, HD.out.safe, Kp.refl _ _⟩
 case round =>
  obtain ⟨k, hk, rfl, hb, hkp⟩ := hrel
  have HBr := Lib.hid hb; have HKP := Lib.hid hkp
  clear hb hkp
  by_cases hlt : k < D.waits.length
  · obtain ⟨x, hx⟩ : ∃ x, D.waits[k]? = some x := ⟨_, List.getElem?_eq_getElem hlt⟩
    obtain ⟨B, rfl, hrg⟩ := wait_at (HD.out.waits.keep HKP.out (fun j e e2 => (HD.out.nw j e).2.2 e2)) rfl HL.out k x hx
    have HRG := Lib.hid hrg
    have HNX := Lib.hid (over_next keep D.waits D.safe k x hx)
    have HX1 := Lib.hid (show x.1 < D.now.length from (HD.out.ok.waits x (List.mem_of_getElem? hx)).1)
    have HX2 := Lib.hid (HL.out x (List.mem_of_getElem? hx))
    obtain ⟨m, hm⟩ : ∃ m, m = k % 64 := ⟨_, rfl⟩
    obtain ⟨z, hz1, hz2⟩ := kept_bit keep k m hm HK.out
    have e1 : (k : Int).tmod 64 = (m : Int) := by rw [Int.tmod_eq_emod_of_nonneg (by omega)]; omega
    have hmm : min m 64 = m := by omega
    have hwr : IntKind.u64.wrap ((2 : Int) ^ m) = ((2 ^ m : Nat) : Int) := by
     have hp : 2 ^ m < 18446744073709551616 := Nat.pow_lt_pow_right (by decide : 1 < 2) (show m < 64 by omega)
     rw [show ((2 : Int) ^ m) = ((2 ^ m : Nat) : Int) by simp]
     generalize 2 ^ m = q at hp ⊢
     rw [IntKind.wrap_u64]
     omega
    have hb : (bits BinOp.and IntKind.u64 (keep : Int) (IntKind.u64.wrap ((2 : Int) ^ m)) != 0) = kept keep k := by
     rw [hwr, hz1]
     cases hkk : kept keep k with
     | false => rw [hz2.2 hkk]; rfl
     | true =>
       have : z ≠ 0 := fun e => by rw [hz2.1 e] at hkk; cases hkk
       rw [bne_iff_ne]; omega
    have HE := Lib.hid (And.intro e1 hmm)
    clear hm hx hrg hz1 hz2 e1 hmm hwr
    cases hkk : kept keep k with
    | false =>
      have HNN := Lib.hid (show over keep 0 (D.waits.take (k + 1)) D.safe = over keep 0 (D.waits.take k) D.safe by rw [HNX.out, hkk]; rfl)
      rw [hkk] at hb
      have HBB := Lib.hid hb
      clear hkk hb
      go_wp2_with (first
       | (refine wpList_load_mid rfl 95 (.tmp 16) rfl B (k * 257) rfl (wcell x) _ HRG.out wr_under rfl (wr_size' x HX2.out) ?_)
       | (refine wpList_store_blk rfl 95 (.tmp 5) (.tmp 17) rfl _ _ zwr (wcell x) (Blk.new _ _ _) rfl rfl (by rw [wcell_length x HX2.out, zwr_length]) (wr_size' x HX2.out) (wcell_one x) ?_
          intro w5 hB5 k5 z5
          have HK5 := Lib.hid (((Kp.refl nob wr).alloc _).since k5 (fun i e => Nat.le_of_eq e.symm))
          have e1 := HE.out.1; have hmm := HE.out.2; have hb := HBB.out
          clear hB5 k5 z5))
      clear e1 hmm hb
      refine ⟨⟨k + 1, hlt, by go_num, ?_, HKP.out.trans HK5.out (fun _ e => e.elim)⟩, by simp [intOf]; omega⟩
      rw [HNN.out]
      exact HBr.out.keep HK5.out (fun e => e)
    | true =>
      have HNN := Lib.hid (show over keep 0 (D.waits.take (k + 1)) D.safe = (over keep 0 (D.waits.take k) D.safe).set x.1 x.2 by rw [HNX.out, hkk]; rfl)
      rw [hkk] at hb
      have HBB := Lib.hid hb
      have HFS := Lib.hid (flat_set (over keep 0 (D.waits.take k) D.safe) (over_256 keep _ _ _ (fun y hy => HL.out y (List.mem_of_mem_take hy)) HD.out.ok.safe2) x.1 x.2 (by rw [over_length, HD.out.ok.safe]; exact HX1.out) HX2.out)
      have HFL := Lib.hid (show x.1 * 256 + (bvs x.2).length ≤ ((over keep 0 (D.waits.take k) D.safe).flatMap bvs).length by
       rw [flat_len _ (over_256 keep _ _ _ (fun y hy => HL.out y (List.mem_of_mem_take hy)) HD.out.ok.safe2), over_length, HD.out.ok.safe, bvs_length, HX2.out]
       have := HX1.out
       omega)
      have HSZ := Lib.hid (sec_size' x.2 HX2.out)
      clear hkk hb
      go_wp2_with (first
       | (refine wpList_load_mid rfl 95 (.tmp 16) rfl B (k * 257) rfl (wcell x) _ HRG.out wr_under rfl (wr_size' x HX2.out) ?_)
       | (refine wpList_store_blk rfl 95 (.tmp 5) (.tmp 17) rfl _ _ zwr (wcell x) (Blk.new _ _ _) rfl rfl (by rw [wcell_length x HX2.out, zwr_length]) (wr_size' x HX2.out) (wcell_one x) ?_
          intro w5 hB5 k5 z5
          obtain ⟨g5, hg5⟩ : ∃ g, g = wr.heap.size := ⟨_, rfl⟩
          rw [← hg5] at hB5 ⊢
          have HB5 := Lib.hid hB5
          have HK5 := Lib.hid (((Kp.refl nob wr).alloc _).since k5 (fun i e => Nat.le_of_eq e.symm))
          have HG5 := Lib.hid hg5
          have e1 := HE.out.1; have hmm := HE.out.2; have hb := HBB.out
          clear hB5 k5 z5 hg5))
      clear e1 hmm hb
      refine wp_region_still_tail 9 (by kernel_rfl) (by kernel_rfl) ?_
      change wpStill _ _ w5.drew (fun a' => wpList _ _ _ _ a' w5.drew) _ _
      have HB6 := Lib.hid (HB5.out.keep (Kp.refl nob w5).drew (fun e => e))
      have HK6 := Lib.hid HK5.out.drew
      have HS6 := Lib.hid ((HBr.out.keep HK5.out (fun e => e)).keep (Kp.refl nob w5).drew (fun e => e))
      have hc1 : w5.drew.cell? ⟨g, 1, none⟩ = some (.slice (some ⟨S, 0, none⟩) D.now.length D.now.length) := by
       have h1 := HD.out.b.keep (HKP.out.trans HK6.out (fun _ e => e.elim)) (fun e => HD.out.ne.2.1 e.symm)
       rw [h1.cell]; rfl
      have hx0 : w5.drew.cell? ⟨g5, 0, none⟩ = some (.int .i64 (x.1 : Int)) := by rw [HB6.out.cell]; rfl
      have hld := run_loadAt_mid (P := Tryz.prog) w5.drew g5 1 90 (bvs x.2) _ (HB6.out.part 1 (bvs x.2) (fun j v hv => by rw [Nat.add_comm, wcell, List.getElem?_cons_succ]; exact hv)) sec_under rfl HSZ.out
      have hx1 := HX1.out
      generalize w5.drew = w6 at *
      clear HB5 HK5 HBr
      simp only [List.take_succ_cons, List.take_zero, List.drop_succ_cons, List.drop_zero]
      repeat (first | still_step | (refine wpStill_load rfl 90 (.tmp 30) rfl _ _ rfl hld ?_))
      refine wpStill_nil ?_
      clear hld hx0 hc1 hx1
      go_wp2_with (refine wpList_store_in rfl 90 (.tmp 32) (.tmp 31) rfl S (x.1 * 256) _ _ (bvs x.2) HS6.out rfl rfl HFL.out HSZ.out (bvs_one _) ?_; intro w7 hB7 k7 z7; rw [HFS.out] at hB7; have HB7 := Lib.hid hB7; have HK7 := Lib.hid k7; clear hB7 k7 z7)
      refine ⟨⟨k + 1, hlt, by go_num, ?_, (HKP.out.trans HK6.out (fun _ e => e.elim)).trans HK7.out (fun _ e => .inl e)⟩, by simp [intOf]; omega⟩
      rw [HNN.out]
      exact HB7.out
  · obtain rfl : k = D.waits.length := by omega
    have HS1 := Lib.hid (show Blk wr S 90 ((over keep 0 D.waits D.safe).flatMap bvs) by have := HBr.out; rwa [List.take_length] at this)
    obtain ⟨SF, hSF⟩ : ∃ SF, SF = over keep 0 D.waits D.safe := ⟨_, rfl⟩
    rw [← hSF] at HS1
    have HSF := Lib.hid hSF
    have HSL := Lib.hid (show SF.length = D.now.length by rw [hSF, over_length, HD.out.ok.safe])
    have HS2 := Lib.hid (show ∀ v ∈ SF, v.length = 256 by rw [hSF]; exact over_256 keep _ _ _ HL.out HD.out.ok.safe2)
    have hc2 : wr.cell? ⟨g, 2, none⟩ = some (.slice W D.waits.length cW) := by rw [(HD.out.b.keep HKP.out (fun e => HD.out.ne.2.1 e.symm)).cell]; rfl
    clear hlt hk HBr hSF c2
    rename World => wo
    go_wp2
    go_loopw [39] (fun vi wr => ∃ (k : Nat), k ≤ D.waits.length ∧ vi = .int .i64 k ∧ Blk wr N 90 ((back SF (D.waits.take k) D.now).flatMap bvs) ∧ Kp (oneB N) wo wr)
     (fun vi _ => D.waits.length - (intOf vi).toNat)
    case atStart => exact ⟨0, by omega, rfl, HD.out.now.keep HKP.out (fun e => HD.out.ne.2.2 e), Kp.refl _ _⟩
    case round =>
     obtain ⟨k, hk, rfl, hb, hkp⟩ := hrel
     have HBr := Lib.hid hb; have HKQ := Lib.hid hkp
     clear hb hkp
     by_cases hlt : k < D.waits.length
     · obtain ⟨x, hx⟩ : ∃ x, D.waits[k]? = some x := ⟨_, List.getElem?_eq_getElem hlt⟩
       obtain ⟨B, rfl, hrg⟩ := wait_at ((HD.out.waits.keep HKP.out (fun j e e2 => (HD.out.nw j e).2.2 e2)).keep HKQ.out (fun j e e2 => (HD.out.nw j e).2.1 e2)) rfl HL.out k x hx
       have HRG := Lib.hid hrg
       have HNX := Lib.hid (back_next SF D.waits D.now k x hx)
       have HX1 := Lib.hid (show x.1 < D.now.length from (HD.out.ok.waits x (List.mem_of_getElem? hx)).1)
       have HX2 := Lib.hid (HL.out x (List.mem_of_getElem? hx))
       obtain ⟨v, hv⟩ : ∃ v, SF[x.1]? = some v := ⟨_, List.getElem?_eq_getElem (by rw [HSL.out]; exact HX1.out)⟩
       have HVD := Lib.hid (show SF.getD x.1 [] = v by rw [List.getD_eq_getElem?_getD, hv]; rfl)
       have HV2 := Lib.hid (HS2.out v (List.mem_of_getElem? hv))
       have HVR := Lib.hid (fun j u (hu : (bvs v)[j]? = some u) => fm_part SF (k := 256) (f := bvs) (fun a ha => by rw [bvs_length, HS2.out a ha]) x.1 v hv j u hu)
       have HB2 := Lib.hid (show ∀ s ∈ back SF (D.waits.take k) D.now, s.length = 256 from back_256 SF HS2.out HSL.out _ _ (fun y hy => (HD.out.ok.waits y (List.mem_of_mem_take hy)).1) HD.out.ok.now)
       have HFS := Lib.hid (flat_set (back SF (D.waits.take k) D.now) HB2.out x.1 v (by rw [back_length]; exact HX1.out) HV2.out)
       have HFL := Lib.hid (show x.1 * 256 + (bvs v).length ≤ ((back SF (D.waits.take k) D.now).flatMap bvs).length by
        rw [flat_len _ HB2.out, back_length, bvs_length, HV2.out]
        have := HX1.out
        omega)
       have HSZ := Lib.hid (sec_size' v HV2.out)
       clear hx hrg hv
       go_wp2_with (first
        | (refine wpList_load_mid rfl 95 (.tmp 41) rfl B (k * 257) rfl (wcell x) _ HRG.out wr_under rfl (wr_size' x HX2.out) ?_)
        | (refine wpList_store_blk rfl 95 (.tmp 7) (.tmp 42) rfl _ _ zwr (wcell x) (Blk.new _ _ _) rfl rfl (by rw [wcell_length x HX2.out, zwr_length]) (wr_size' x HX2.out) (wcell_one x) ?_
           intro w5 hB5 k5 z5
           obtain ⟨g5, hg5⟩ : ∃ g, g = wr.heap.size := ⟨_, rfl⟩
           rw [← hg5] at hB5 ⊢
           have HB5 := Lib.hid hB5
           have HK5 := Lib.hid (((Kp.refl nob wr).alloc _).since k5 (fun i e => Nat.le_of_eq e.symm))
           clear hB5 k5 z5 hg5))
       refine wp_region_still_tail 15 (by kernel_rfl) (by kernel_rfl) ?_
       change wpStill _ _ w5.drew (fun a' => wpList _ _ _ _ a' w5.drew) _ _
       have HB6 := Lib.hid (HB5.out.keep (Kp.refl nob w5).drew (fun e => e))
       have HK6 := Lib.hid HK5.out.drew
       have HN6 := Lib.hid ((HBr.out.keep HK5.out (fun e => e)).keep (Kp.refl nob w5).drew (fun e => e))
       have HS6 := Lib.hid ((HS1.out.keep HKQ.out (fun e => HD.out.ne.2.2 e.symm)).keep HK6.out (fun e => e))
       have HD6 := Lib.hid ((HD.out.b.keep HKP.out (fun e => HD.out.ne.2.1 e.symm)).keep (HKQ.out.trans HK6.out (fun _ e => e.elim)) (fun e => HD.out.ne.1 e.symm))
       have hc0 : w5.drew.cell? ⟨g, 0, none⟩ = some (.slice (some ⟨N, 0, none⟩) D.now.length D.now.length) := by rw [HD6.out.cell]; rfl
       have hc1 : w5.drew.cell? ⟨g, 1, none⟩ = some (.slice (some ⟨S, 0, none⟩) D.now.length D.now.length) := by rw [HD6.out.cell]; rfl
       have hx0 : w5.drew.cell? ⟨g5, 0, none⟩ = some (.int .i64 (x.1 : Int)) := by rw [HB6.out.cell]; rfl
       have hld := run_loadAt_mid (P := Tryz.prog) w5.drew S (x.1 * 256) 90 (bvs v) _ (HS6.out.part _ _ HVR.out) sec_under rfl HSZ.out
       have hx1 := HX1.out
       generalize w5.drew = w6 at *
       clear HB5 HK5 HBr
       simp only [List.take_succ_cons, List.take_zero, List.drop_succ_cons, List.drop_zero]
       repeat (first | still_step | (refine wpStill_load rfl 90 (.tmp 55) rfl _ _ rfl hld ?_))
       refine wpStill_nil ?_
       clear hld hx0 hc1 hx1 hc0
       go_wp2_with (refine wpList_store_in rfl 90 (.tmp 57) (.tmp 56) rfl N (x.1 * 256) _ _ (bvs v) HN6.out rfl rfl HFL.out HSZ.out (bvs_one _) ?_; intro w7 hB7 k7 z7; rw [HFS.out] at hB7; have HB7 := Lib.hid hB7; have HK7 := Lib.hid k7; clear hB7 k7 z7)
       refine ⟨⟨k + 1, hlt, by go_num, ?_, (HKQ.out.trans HK6.out (fun _ e => e.elim)).trans HK7.out (fun _ e => .inl e)⟩, by simp [intOf]; omega⟩
       rw [HNX.out, HVD.out]
       exact HB7.out
     · obtain rfl : k = D.waits.length := by omega
       have HN1 := Lib.hid (show Blk wr N 90 (SF.flatMap bvs) by
        have := HBr.out
        rw [List.take_length, HD.out.al] at this
        rw [HSF.out] at this ⊢
        rwa [back_all] at this)
       have hb2 := (HD.out.b.keep HKP.out (fun e => HD.out.ne.2.1 e.symm)).keep HKQ.out (fun e => HD.out.ne.1 e.symm)
       have HG := Lib.hid hb2
       have HSE := Lib.hid (HS1.out.keep HKQ.out (fun e => HD.out.ne.2.2 e.symm))
       have hc2 : wr.cell? ⟨g, 2, none⟩ = some (.slice W D.waits.length cW) := by rw [hb2.cell]; rfl
       have hf2 : wr.frozen? ⟨g, 2, none⟩ = false := hb2.frozen _
       clear hlt hk HBr hb2
       go_wp2
       have kg : Kp (oneB g) wr (wr.setCell ⟨g, 2, none⟩ (.slice none 0 0)) := (Kp.refl (oneB g) wr).setCell (p := ⟨g, 2, none⟩) (.inl rfl) _
       have hbg := HG.out.set_ 2 (.slice none 0 0)
       have k1 : Kp (dF g N S W) w wo := HKP.out.mono (fun i _ e => .inr (.inr (.inl e)))
       have k2 : Kp (dF g N S W) w wr := k1.trans HKQ.out (fun i e => .inl (.inr (.inl e)))
       have k3 := k2.trans kg (fun i e => .inl (.inl e))
       refine bodyPost_end (results_none rfl _ _ _) rfl ⟨rfl, ?_, k3⟩
       rw [← HSF.out]
       have hn := HN1.out.keep kg HD.out.ne.1
       have hs := HSE.out.keep kg HD.out.ne.2.1
       refine ⟨?_, hn, hs, OwnK.nil 257 _ _, ⟨rfl, HS2.out, HS2.out, fun x hx => by cases hx⟩, rfl, by rw [HSL.out]; exact HD.out.max, HD.out.ne, fun k e => by cases e⟩
       show Blk _ _ _ [.slice _ SF.length SF.length, .slice _ SF.length SF.length, _, _, _, _, _]
       rw [HSL.out]
       exact hbg
end Disk
end Go.Proofs.YtigdlnfgdjfdoaaGreat
