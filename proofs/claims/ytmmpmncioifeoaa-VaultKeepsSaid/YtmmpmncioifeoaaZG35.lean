/- Contracts of the library's Chunk, at bytes: what it answers, and what that does when it is ranged over. · Contracts of package gcm: a text taken exclusively with the nonce's blocks, sealed. · Blocks as two words of 64 bits: the words' bits, sums, and the product with x. No program is named here. -/
import Derived.Test.YtmmpmncioifeoaaZG12
import Derived.Test.YtmmpmncioifeoaaZG34
import Derived.Test.YtmmpmncioifeoaaZG25
import Derived.RangeFuncBound
import Derived.RangeFuncLeaves
import Derived.Shelf.Abstract
import Derived.Shelf.RegionOpen
import Derived.WalkKit
import Derived.OwnWalkIn
import Derived.TacticsInMore
import Derived.LoopNIn
import Derived.LoopIn
import Derived.BigQuiet
import Derived.Deep.QuietTactic
import Derived.Laws.Bits64
namespace Go.Proofs.Ytmmpmncioifeoaa.Gcm
set_option linter.unusedVariables false
set_option linter.unusedSimpArgs false
open Go Go.RowKit Kit
attribute [local go_sem] Oper.semAt_some

/-- The pieces of a slice of n bytes, each of 16, as values. -/
def pcv (A : Option Addr) (n k : Nat) : Value := .slice (cutA A (16 * k + min 16 (n - 16 * k)) (16 * k)) (min 16 (n - 16 * k)) (min 16 (n - 16 * k))
theorem chunk_any (A : Option Addr) (n c : Nat) (w : World) :
    Calls Try.prog 106 #[.slice A n c, .int .i64 16] w fun e w' => e = .returned (.func (.func 119) #[] #[.pointer (some ⟨w.heap.size, 0, none⟩), .pointer (some ⟨w.heap.size + 1, 0, none⟩)]) ∧ w' = (w.alloc (.cells #[.slice A n c] 29)).alloc (.cells #[.int .i64 16] 3) := by
  go_enter Try.func106, Try.ntmps106
  go_wp2
  go_ret
  exact ⟨rfl, rfl⟩

set_option maxRecDepth 100000 in
set_option maxHeartbeats 2000000 in
theorem chunk1_in (m l Bs Bn : Nat) (F : Nat → Prop) (A : Option Addr) (n c : Nat) (hn : n ≤ 140737488355328) (hc : n ≤ c) (hFs : ¬ F Bs) (hFn : ¬ F Bn) (J Jx : List Nat → World → Prop)
    (hY : ∀ pre x W, J pre W → pre.length < (n + 15) / 16 → YieldAt Fence.wide (m - 1) Try.prog l #[pcv A n x] W fun e W' =>
      (e = .returned (.bool true) ∧ J (pre ++ [x]) W' ∧ Kp F W W') ∨ (e = .returned (.bool false) ∧ Jx (pre ++ [x]) W'))
    (hJd : ∀ pre W j, J pre W → J pre (W.drewN j))
    (W : World) (hBs : W.cell? ⟨Bs, 0, none⟩ = some (.slice A n c)) (hBn : W.cell? ⟨Bn, 0, none⟩ = some (.int .i64 16)) (hs1 : Bs < W.heap.size) (hs2 : Bn < W.heap.size) (h0 : J [] W) :
    CallsIn Fence.wide m Try.prog 119 #[.func (.yield l) #[] #[], .pointer (some ⟨Bs, 0, none⟩), .pointer (some ⟨Bn, 0, none⟩)] W fun e W' => (∃ v, e = .returned v) ∧
      ((∃ ys, ys = List.range ((n + 15) / 16) ∧ J ys W') ∨ (∃ pre, Jx pre W')) := by
  refine callsIn_of_wp Try.func119 rfl trivial ?_ rfl
  simp only [Try.ntmps119, List.size_toArray, List.length_cons, List.length_nil, Nat.reduceAdd, Nat.reduceSub, Array.replicate_succ, Array.replicate_zero, List.push_toArray, List.append_toArray, List.nil_append, List.cons_append]
  gi_wp2
  gi_loopw [4] (fun i wr => ∃ k q : Nat, q = 16 * k ∧ q ≤ n + 15 ∧ i = .int .i64 q ∧ J (List.range k) wr ∧ Kp F W wr)
    (fun i _ => n + 15 - (intOf i).toNat)
  case atStart => exact ⟨0, 0, rfl, Nat.zero_le _, rfl, h0, Kp.refl _ _⟩
  case round =>
    obtain ⟨k, q, hq, hk, rfl, hJs, hnx⟩ := hrel
    have c1 : wr.cell? ⟨Bs, 0, none⟩ = some (.slice A n c) := (hnx.cell (p := ⟨Bs, 0, none⟩) hs1 hFs).trans hBs
    have c2 : wr.cell? ⟨Bn, 0, none⟩ = some (.int .i64 16) := (hnx.cell (p := ⟨Bn, 0, none⟩) hs2 hFn).trans hBn
    have HQ := Lib.hid hq; clear hq
    by_cases hlt : q < n
    · have hsl := slice_from A n c q (by omega)
      obtain ⟨e, he⟩ : ∃ e, e = min 16 (n - q) := ⟨_, rfl⟩
      have hmin : (if ((n - q : Nat) : Int) < 16 then ((n - q : Nat) : Int) else 16) = (e : Int) := by
        rcases Nat.lt_or_ge (n - q) 16 with h | h
        · rw [if_pos (by omega), he, Nat.min_eq_right (by omega)]
        · rw [if_neg (by omega), he, Nat.min_eq_left (by omega)]; rfl
      obtain ⟨j, hj⟩ : ∃ j, j = q + e := ⟨_, rfl⟩
      have he2 : e ≤ n - q ∧ e ≤ 16 ∧ 0 < e := by omega
      have e1 : IntKind.i64.wrap ((q : Int) + (e : Int)) = (j : Int) := by rw [IntKind.wrap_i64]; omega
      have hsl2 : ∀ w, (Instr.slice 29 (.slice A n c) (some (.int .i64 q)) (some (.int .i64 j)) (some (.int .i64 j))).run Try.prog w = .ok (pcv A n k) w := fun w => by
        rw [slice_max A n c q j (by omega) (by omega), pcv, ← HQ.out, ← he, hj, show q + e - q = e by omega]
      have e2 : IntKind.i64.wrap ((q : Int) + 16) = ((q + 16 : Nat) : Int) := by rw [IntKind.wrap_i64]; omega
      have HE := Lib.hid (And.intro he (And.intro hj he2))
      clear he hj he2
      gi_wp2
      refine wpIn_wide.2 ?_
      go_quiet (fail)
      have HK := Lib.hid (hnx.trans ⟨rfl, rfl, rfl, Nat.le_refl _, fun _ _ _ => rfl⟩ (fun _ e => .inl e) : Kp F W (wr.drewN nq))
      have HJ := Lib.hid (hJd _ _ nq hJs)
      have c3 : (wr.drewN nq).cell? ⟨Bs, 0, none⟩ = some (.slice A n c) := c1
      have c4 : (wr.drewN nq).cell? ⟨Bn, 0, none⟩ = some (.int .i64 16) := c2
      have hz1 : Bs < (wr.drewN nq).heap.size := Nat.lt_of_lt_of_le hs1 hnx.size
      have hz2 : Bn < (wr.drewN nq).heap.size := Nat.lt_of_lt_of_le hs2 hnx.size
      clear hmin hsl c1 c2 hnx hJs
      generalize wr.drewN nq = wd at *
      obtain ⟨fn, tmps, assign, body, hy, hR⟩ := hY _ k wd HJ.out (by rw [List.length_range]; have := HQ.out; omega)
      gi_wp2
      refine ⟨(fun h => by cases h), hR.mono ?_⟩
      rintro r W3 (⟨rfl, hJ3, hk3⟩ | ⟨rfl, hJx3⟩)
      · have HK3 := Lib.hid (HK.out.trans hk3 (fun _ e => .inl e))
        have c5 : W3.cell? ⟨Bs, 0, none⟩ = some (.slice A n c) := (hk3.cell (p := ⟨Bs, 0, none⟩) hz1 hFs).trans c3
        have c6 : W3.cell? ⟨Bn, 0, none⟩ = some (.int .i64 16) := (hk3.cell (p := ⟨Bn, 0, none⟩) hz2 hFn).trans c4
        have HJ3 := Lib.hid (show J (List.range (k + 1)) W3 by rw [List.range_succ]; exact hJ3)
        clear hJ3 hk3 c3 c4
        gi_wp2
        go_roundw
        case rel => exact ⟨k + 1, q + 16, by have := HQ.out; omega, by omega, by go_num, HJ3.out, HK3.out⟩
        case measure => simp [intOf]; omega
      · gi_wp2
        refine bodyPost_ret (results_none rfl _ _ _) rfl ?_
        exact ⟨⟨_, rfl⟩, .inr ⟨_, hJx3⟩⟩
    · have HJ : Hid (J (List.range ((n + 15) / 16)) wr) := Lib.hid (by rw [show (n + 15) / 16 = k by have := HQ.out; omega]; exact hJs)
      clear hJs
      gi_wp2
      go_end0
      exact ⟨⟨_, rfl⟩, .inl ⟨_, rfl, HJ.out⟩⟩
theorem chunk_stops (m Bs Bn : Nat) (F : Nat → Prop) (A : Option Addr) (n c : Nat) (hn : n ≤ 140737488355328) (hc : n ≤ c) (hFs : ¬ F Bs) (hFn : ¬ F Bn) (w : World) (hBs : w.cell? ⟨Bs, 0, none⟩ = some (.slice A n c)) (hBn : w.cell? ⟨Bn, 0, none⟩ = some (.int .i64 16)) (hs1 : Bs < w.heap.size) (hs2 : Bn < w.heap.size) :
    SeqStopsK Fence.wide m Try.prog 119 #[.pointer (some ⟨Bs, 0, none⟩), .pointer (some ⟨Bn, 0, none⟩)] (fun x : Nat => #[pcv A n x]) (Kp F) (fun ys => ys = List.range ((n + 15) / 16)) (fun _ => True) ((n + 15) / 16) w := fun l J Jx W hW hJ _ hY h0 => by
  refine (chunk1_in m l Bs Bn F A n c hn hc hFs hFn J Jx hY (fun pre W j h => hJ pre W _ none h ⟨rfl, rfl, rfl, Nat.le_refl _, fun _ _ _ => rfl⟩ (fun r e => by cases e)) W ((hW.cell (p := ⟨Bs, 0, none⟩) hs1).trans hBs) ((hW.cell (p := ⟨Bn, 0, none⟩) hs2).trans hBn) (Nat.lt_of_lt_of_le hs1 hW.size) (Nat.lt_of_lt_of_le hs2 hW.size) h0).mono ?_
  rintro e W' ⟨he, ⟨ys, rfl, hj⟩ | ⟨pre, hj⟩⟩
  · exact ⟨he, .inl ⟨_, rfl, hj⟩⟩
  · exact ⟨he, .inr ⟨pre, trivial, hj⟩⟩
end Go.Proofs.Ytmmpmncioifeoaa.Gcm
namespace Go.Proofs.Ytmmpmncioifeoaa.Gcm
set_option linter.unusedVariables false
set_option linter.unusedSimpArgs false
open Go Go.RowKit Kit
open Aes (gb tb tb_length arrB blk_byte enc enc_length Ciph)
open Ghash (none16 none_length len16)
open Field (cb cb_inj)
attribute [local go_sem] Oper.semAt_some

/-- An empty slice with room, made. -/
theorem make_room (N : Nat) (hN : N ≤ 140737488355328) : ∃ mk : Array Value, mk.size = N ∧ ∀ w, (Instr.makeSlice 29 (.int .i64 0) (.int .i64 (N : Int))).run Try.prog w = .ok (.slice (some ⟨w.heap.size, 0, none⟩) 0 N) (w.alloc (.cells mk 5)) := by
  obtain ⟨i, hi, hz0, hz1, hz2⟩ := info_parts (show (Try.prog.info? 5).map (fun i => (i.zero, i.size, i.bytes)) = some (some (.int .u8 0), 1, 1) by kernel_rfl)
  refine ⟨madeCells (Value.int .u8 0).cells (N * 1), by rw [size_madeCells, Nat.mul_one], fun w => ?_⟩
  have h := run_make (P := Try.prog) w 29 5 i (.int .u8 0) u8s_under hi hz0 .i64 .i64 0 (N : Int) (Int.le_refl _) (by omega) (by rw [hz2]; omega) (by omega)
  rw [hz1, Int.toNat_natCast] at h
  exact h
/-- The blocks that a round may write, of those that lay when the loop began: the row, the row's variable, the count. -/
def G3 (b : Nat) : Nat → Prop := fun k => k = b + 2 ∨ k = b + 3 ∨ k = b + 4
def F3 (b : Nat) : Nat → Prop := fun k => G3 b k ∨ b + 7 ≤ k
/-- What stands when the loop begins: b: where the function began; p, W, R: the sealer; nn: the nonce; l: the text. -/
structure Ms [Inhabited Field.SqTab] (b p : Nat) (W : List UInt8) (R : Nat) (nn l : List UInt8) (A : Option Addr) (n c : Nat) (w7 : World) : Prop where
  s : Blk w7 b 125 [.pointer (some ⟨p, 0, none⟩)]
  no : Blk w7 (b + 1) 53 (bvs nn)
  se : SealAt w7 p W R
  r : Row w7 A (bvs l)
  bs : Blk w7 (b + 5) 29 [.slice A n c]
  bn : Blk w7 (b + 6) 3 [.int .i64 16]
  lo : ∀ k, b ≤ k → ¬ (ab A = some k ∧ l ≠ [])
  pc : p < b ∧ ∃ g, g < b ∧ Blk w7 p 156 [.pointer (some ⟨g, 0, none⟩)] ∧ Ciph w7 g W R
theorem Ms.keep [Inhabited Field.SqTab] {b p : Nat} {W : List UInt8} {R : Nat} {nn l : List UInt8} {A : Option Addr} {n c : Nat} {w7 w8 : World} (h : Ms b p W R nn l A n c w7) (hz : w7.heap.size = b + 7) (k : Kp (F3 b) w7 w8) : Ms b p W R nn l A n c w8 := by
  have hb : ∀ j, j < b ∨ j = b + 1 ∨ j = b + 5 ∨ j = b + 6 ∨ j = b → ¬ F3 b j := fun j hj e => by unfold F3 G3 at e; omega
  obtain ⟨hp, g, hg, h1, h2⟩ := h.pc
  have h1' := h1.keep k (hb p (by omega))
  have h2' := h2.keep k (hb g (by omega))
  refine ⟨h.s.keep k (hb _ (by omega)), h.no.keep k (hb _ (by omega)), ⟨g, h1', h2'⟩, ?_, h.bs.keep k (hb _ (by omega)), h.bn.keep k (hb _ (by omega)), h.lo, hp, g, hg, h1', h2'⟩
  by_cases hl : l = []
  · rw [hl]; exact Row.nil _ _
  · exact h.r.keep k (fun j e e' => by
      have := h.r.lt (by intro e; exact hl (by simpa [bvs] using e)) j e
      rcases e' with e' | e'
      · exact h.lo j (by unfold G3 at e'; omega) ⟨e, hl⟩
      · omega)
/-- What stands between two rounds. -/
structure Mr [Inhabited Field.SqTab] (b : Nat) (W : List UInt8) (R : Nat) (nn l : List UInt8) (w7 : World) (pre : List Nat) (w8 : World) : Prop where
  o : ∃ A' n' c', n' = (mks W R nn l 0 pre).length ∧ Blk w8 (b + 3) 29 [.slice A' n' c'] ∧ Kit.Own 5 w8 A' n' c' (bvs (mks W R nn l 0 pre)) ∧ ∀ k, ab A' = some k → k = b + 2 ∨ b + 7 ≤ k
  x : Blk w8 (b + 4) 3 [.int .i64 ((pre.length + 2 : Nat) : Int)]
  kp : Kp (F3 b) w7 w8
theorem not_cells {W : World} {r : Nat} {g : Nat} {cs : Array Value} {t : TypeId} {fr : Nat × Nat} (h : W.heap[g]? = some (.cells cs t fr)) (hr : ∃ o : Obj, W.heap[r]? = some o ∧ o.isCells = false) : g ≠ r := by
  rintro rfl
  obtain ⟨o, ho, hc⟩ := hr
  rw [h] at ho; cases ho; cases hc
theorem Mr.own [Inhabited Field.SqTab] {b : Nat} {W : List UInt8} {R : Nat} {nn l : List UInt8} {w7 : World} (hz : w7.heap.size = b + 7) : OwnFrom w7.heap.size (fun pre w8 => Mr b W R nn l w7 pre w8) := by
  intro pre W1 W2 row h hg hr
  have k := Kp.of_grown (F := fun k => row = some k) hg (fun k e => e)
  obtain ⟨A', n', c', h1, h2, h3, h4⟩ := h.o
  refine ⟨⟨A', n', c', h1, h2.keep k (fun e => not_cells h2 (hr _ e).2 rfl), ?_, h4⟩, h.x.keep k (fun e => not_cells h.x (hr _ e).2 rfl), h.kp.trans k (fun j e => .inl (.inr (by have := (hr j e).1; omega)))⟩
  refine h3.keep k (fun j e e' => ?_)
  rcases h3.2 with ⟨h5, _⟩ | ⟨g, cap, cur, h5, _, h6, _⟩
  · injection h5 with h5; rw [h5] at e; cases e
  · injection h5 with h5
    rw [h5] at e; cases e
    exact not_cells h6 (hr _ e').2 rfl

/-- A piece, as a slice that reads it. -/
theorem pcv_row {w : World} {A : Option Addr} {l : List UInt8} {n : Nat} (h : Row w A (bvs l)) (hl : l.length = n) (x : Nat) : ∃ X q, pcv A n x = .slice X q q ∧ q = (piece l x).length ∧ q ≤ 16 ∧ Row w X (bvs (piece l x)) ∧ (ab X = ab A ∧ (q = 0 ∨ l ≠ [])) := by
  refine ⟨_, _, rfl, by rw [piece_length, hl], by omega, ?_, ab_cut _ _ _, ?_⟩
  · have h1 := (h.take (16 * x + min 16 (n - 16 * x))).cut (c := 16 * x + min 16 (n - 16 * x)) (k := 16 * x) (by rw [List.length_take]; omega)
    have e : ((bvs l).take (16 * x + min 16 (n - 16 * x))).drop (16 * x) = bvs (piece l x) := by
      rw [List.drop_take, show 16 * x + min 16 (n - 16 * x) - 16 * x = min 16 (n - 16 * x) by omega]
      rw [piece_eq, bvs, bvs, List.map_take, List.map_drop, List.take_eq_take_min (i := 16), List.length_drop, List.length_map, hl]
    rw [e] at h1
    exact h1
  · by_cases h0 : l = []
    · left; subst h0; simp at hl; omega
    · exact .inr h0
set_option maxHeartbeats 2000000 in
set_option maxRecDepth 100000 in
theorem masked_any [Inhabited Field.SqTab] (p : Nat) (W : List UInt8) (R : Nat) (nn l : List UInt8) (A : Option Addr) (n c : Nat) (w : World) (hS : SealAt w p W R) (hnn : nn.length = 12) (hl : l.length = n) (hc : n ≤ c) (hn : n ≤ 1099511627776) (hr : Row w A (bvs l)) :
    Calls Try.prog 96 #[.pointer (some ⟨p, 0, none⟩), .agg (bvs nn).toArray, .slice A n c] w fun e w' => ∃ A' c', e = .returned (.slice A' n c') ∧ Kit.Own 5 w' A' n c' (bvs (stream W R nn l)) ∧ Kp nob w w' ∧ ∀ k, ab A' = some k → w.heap.size ≤ k := by
  obtain ⟨mk, hmk1, hmk⟩ := make_room (n + 16) (by omega)
  simp only [show ((n + 16 : Nat) : Int) = (n : Int) + 16 by omega] at hmk
  have e1 : IntKind.i64.wrap ((n : Int) + 16) = (n : Int) + 16 := by rw [IntKind.wrap_i64]; omega
  have HNN := Lib.hid hnn; have HL := Lib.hid hl; have HM := Lib.hid hmk1; have HC := Lib.hid hc; have HN := Lib.hid hn
  obtain ⟨b, hb⟩ : ∃ b, b = w.heap.size := ⟨_, rfl⟩
  obtain ⟨w7, hw7⟩ : ∃ w7, w7 = ((((((w.alloc (.cells #[.pointer (some ⟨p, 0, none⟩)] 125)).alloc (.cells (bvs nn).toArray 53)).alloc (.cells mk 5)).alloc (.cells #[.slice (some ⟨w.heap.size + 1 + 1, 0, none⟩) 0 (n + 16)] 29)).alloc (.cells #[.int .i64 2] 3)).alloc (.cells #[.slice A n c] 29)).alloc (.cells #[.int .i64 16] 3) := ⟨_, rfl⟩
  have hz7 : w7.heap.size = b + 7 := by rw [hw7, hb]; simp
  have hk7 : Kp nob w w7 := by rw [hw7]; exact (((((((Kp.refl nob w).alloc _).alloc _).alloc _).alloc _).alloc _).alloc _).alloc _
  have hM : Ms b p W R nn l A n c w7 := by
    obtain ⟨g, h1, h2⟩ := hS.c
    have h1' := h1.keep hk7 (fun e => e)
    have h2' := h2.keep0 hk7
    refine ⟨?_, ?_, ⟨g, h1', h2'⟩, hr.keep0 hk7, ?_, ?_, ?_, by rw [hb]; exact h1.lt, g, by rw [hb]; exact h2.lt, h1', h2'⟩
    · rw [hw7]; exact ((((((Blk.new' hb rfl).alloc _).alloc _).alloc _).alloc _).alloc _).alloc _
    · rw [hw7]; exact (((((Blk.new' (by simp [hb]) rfl).alloc _).alloc _).alloc _).alloc _).alloc _
    · rw [hw7]; exact (Blk.new' (by simp [hb]) rfl).alloc _
    · rw [hw7]; exact Blk.new' (by simp [hb]) rfl
    · rintro k hk ⟨e, hl⟩
      have := hr.lt (by intro e; exact hl (by simpa [bvs] using e)) k e
      unfold G3 at hk; omega
  have hO : Mr b W R nn l w7 [] w7 := by
    refine ⟨⟨some ⟨b + 2, 0, none⟩, 0, n + 16, by rw [mks_nil]; rfl, ?_, ?_, fun k e => by cases e; exact .inl rfl⟩, ?_, Kp.refl _ _⟩
    · rw [hw7]; refine (((Blk.new' ?_ ?_).alloc _).alloc _).alloc _ <;> simp [hb]
    · rw [mks_nil]
      have h0 : Kit.Own 5 (((w.alloc (.cells #[.pointer (some ⟨p, 0, none⟩)] 125)).alloc (.cells (bvs nn).toArray 53)).alloc (.cells mk 5)) (some ⟨b + 2, 0, none⟩) 0 (n + 16) [] := by
        have := World.ownsRow_made (base := 0) (size := 1) (e := 5) ((w.alloc (.cells #[.pointer (some ⟨p, 0, none⟩)] 125)).alloc (.cells (bvs nn).toArray 53)) mk (n + 16) (Nat.zero_le _) (by unfold maxLen; omega) (by rw [hmk1, Nat.mul_one])
        rw [show ((w.alloc (.cells #[.pointer (some ⟨p, 0, none⟩)] 125)).alloc (.cells (bvs nn).toArray 53)).heap.size = b + 2 by simp [hb]] at this
        exact this
      rw [hw7]
      exact (((h0.alloc _).alloc _).alloc _).alloc _
    · rw [hw7]; exact ((Blk.new' (by simp [hb]) rfl).alloc _).alloc _
  have HM7 := Lib.hid hM; have HO7 := Lib.hid hO; have HK7 := Lib.hid hk7; have HB := Lib.hid hb; have HZ7 := Lib.hid hz7
  have c5 : w7.cell? ⟨b + 5, 0, none⟩ = some (.slice A n c) := hM.bs.cell 0
  have c6 : w7.cell? ⟨b + 6, 0, none⟩ = some (.int .i64 16) := hM.bn.cell 0
  clear hnn hl hS hr hmk1 hc hn hM hO hk7
  refine (callsIn_wide (n := 3)).1 ?_
  refine callsIn_of_wp_marks Try.func96 rfl trivial ?_ rfl
  simp only [Try.ntmps96, List.size_toArray, List.length_cons, List.length_nil, Nat.reduceAdd, Nat.reduceSub, Array.replicate_succ, Array.replicate_zero, List.push_toArray, List.append_toArray, List.nil_append, List.cons_append]
  gi_wp2_with (refine ⟨trivial, ?_⟩; refine (callsIn_wide.2 (chunk_any A n c _)).mono ?_; rintro e w' ⟨rfl, rfl⟩)
  rw [← hw7]
  simp only [← hb, Nat.add_assoc, Nat.reduceAdd]
  clear hw7 hmk hb
  refine wpIn_rangeFunc_ownF rfl (by decide) (gf := 119) (lb := #[.pointer (some ⟨b + 5, 0, none⟩), .pointer (some ⟨b + 6, 0, none⟩)]) rfl trivial (enters_of Try.func119 (by kernel_rfl) rfl)
    (chunk_stops 2 (b + 5) (b + 6) (F3 b) A n c (by have := HN.out; omega) HC.out (by unfold F3 G3; omega) (by unfold F3 G3; omega) w7 c5 c6 (by omega) (by omega)) (fun h k => kp_t h k) (kp_b (fun k hk => .inr (by omega))) (Below.refl _ _) (fun _ => rfl)
    (fun pre w8 => Mr b W R nn l w7 pre w8) (fun _ _ _ => False) (Mr.own hz7) (fun _ _ _ _ _ h _ _ => h) HO7.out
    (fun x => { tmps := #[.pointer (some ⟨p, 0, none⟩), .agg (bvs nn).toArray, .slice A n c, .pointer (some ⟨b, 0, none⟩), .pointer (some ⟨b + 1, 0, none⟩), undef, .slice none 0 0, .pointer (some ⟨b + 3, 0, none⟩), .pointer (some ⟨b + 4, 0, none⟩), pcv A n x, undef, undef, undef, .slice A n c, .int .i64 (n : Int), .int .i64 ((n : Int) + 16), .slice (some ⟨b + 2, 0, none⟩) 0 (n + 16), .slice A n c, .func (.func 119) #[] #[.pointer (some ⟨b + 5, 0, none⟩), .pointer (some ⟨b + 6, 0, none⟩)], pcv A n x, undef, undef, undef, undef, undef, undef, undef, undef, undef, undef, undef, undef, undef, undef, undef, undef, undef, undef, undef, undef, undef, undef, undef, undef, undef, undef, undef], defers := [] }) ?assign ?body ?done ?stop
  case assign =>
    intro l x W K hK
    gi_wp2
    exact hK
  case stop =>
    rintro D c pre W _ _ h _
    exact h.elim
  case done =>
    rintro D ys w8 hD rfl h hK
    have HO : Hid (∃ A' c', Blk w8 (b + 3) 29 [.slice A' n c'] ∧ Kit.Own 5 w8 A' n c' (bvs (stream W R nn l)) ∧ ∀ k, ab A' = some k → k = b + 2 ∨ b + 7 ≤ k) := Lib.hid (by
      obtain ⟨A', n', c', h1, h2, h3, h4⟩ := h.o
      rw [mks_all _ _ _ _ _ (by rw [HL.out]; omega)] at h1 h3
      rw [stream_length, HL.out] at h1
      subst h1
      exact ⟨A', c', h2, h3, h4⟩)
    have HK := Lib.hid h.kp
    clear h
    obtain ⟨A', c', h2, h3, h4⟩ := HO.out
    have c1 : w8.cell? ⟨b + 3, 0, none⟩ = some (.slice A' n c') := h2.cell 0
    have H3 := Lib.hid h3; have H4 := Lib.hid h4
    clear HO h2 h3 h4
    dsimp only
    gi_wp2
    refine ⟨by simp, .inl ⟨_, _, rfl, run_takeDeferred hK, ?_⟩⟩
    refine ⟨_, results_tmp rfl _ _ _, A', c', rfl, ownsRow_putObj H3.out _ hK rfl, ?_, fun k e => by have := H4.out k e; have := HB.out; omega⟩
    refine (HK7.out.since HK.out (fun i e => by have := HB.out; unfold F3 G3 at e; omega)).since (Kp.of_grown (F := fun k => k = D) (grownBy_putObj' w8 D _) (fun k e => by cases e; rfl)) (fun i e => by have := HB.out; rw [e]; omega)
  case body =>
    rintro lo pre x w8 h hlen
    have HM8 := Lib.hid (HM7.out.keep hz7 h.kp)
    have H8 := Lib.hid h
    clear h c5 c6
    obtain ⟨hpb, g, hgb, hg1, hg2⟩ := HM8.out.pc
    have HG := Lib.hid (And.intro hg1 hg2)
    obtain ⟨E, hE⟩ : ∃ E, E = enc W R (nb nn (pre.length + 2)) := ⟨_, rfl⟩
    have HE := Lib.hid hE
    have HEL := Lib.hid (show (bvs E).length = 16 by rw [bvs_length, hE, enc_length])
    have HNL := Lib.hid (show (bvs nn).length = 12 by rw [bvs_length, HNN.out])
    have HZ := Lib.hid (len16 none_length)
    have HPL := Lib.hid (show pre.length + 2 ≤ 1099511627776 by have := HN.out; omega)
    clear hE hg1 hg2
    gi_wp2
    rename_i K1 hK1
    have hcont : ∀ (m : Nat) (w9 : World), Kp nob w8 w9 → Blk w9 m 142 (bvs E) → w8.heap.size ≤ m → K1 { tmps := #[.pointer (some ⟨p, 0, none⟩), .agg (bvs nn).toArray, .slice A n c, .pointer (some ⟨b, 0, none⟩), .pointer (some ⟨b + 1, 0, none⟩), undef, .slice none 0 0, .pointer (some ⟨b + 3, 0, none⟩), .pointer (some ⟨b + 4, 0, none⟩), pcv A n x, .pointer (some ⟨m, 0, none⟩), undef, undef, .slice A n c, .int .i64 (n : Int), .int .i64 ((n : Int) + 16), .slice (some ⟨b + 2, 0, none⟩) 0 (n + 16), .slice A n c, .func (.func 119) #[] #[.pointer (some ⟨b + 5, 0, none⟩), .pointer (some ⟨b + 6, 0, none⟩)], pcv A n x, .pointer (some ⟨p, 0, none⟩), .pointer (some ⟨p, 0, none⟩), .pointer (some ⟨p, 0, none⟩), .pointer (some ⟨g, 0, none⟩), .agg (bvs nn).toArray, .int .i64 ((pre.length + 2 : Nat) : Int), .agg (bvs (nb nn (pre.length + 2))).toArray, .agg (bvs E).toArray, undef, undef, undef, undef, undef, undef, undef, undef, undef, undef, undef, undef, undef, undef, undef, undef, undef, undef, undef], defers := [] } w9 := by
      intro m w9 k9 hb9 hm9
      obtain ⟨X, q, hpc, hq, hq16, hrx, habx, hxl⟩ := pcv_row HM8.out.r HL.out x
      obtain ⟨A0, n0, c0, hn0, ho0, hO0, hA0⟩ := H8.out.o
      obtain ⟨P, hP⟩ : ∃ P, P = piece l x := ⟨_, rfl⟩
      obtain ⟨M0, hM0⟩ : ∃ M0, M0 = mks W R nn l 0 pre := ⟨_, rfl⟩
      have hml := mks_length W R nn l pre 0
      have hms := mks_snoc W R nn l x pre 0
      rw [Nat.zero_add, ← HE.out] at hms
      rw [← hP] at hq hrx hms
      rw [← hM0] at hn0 hO0 hml hms
      have H9 : Hid (Blk w9 (b + 3) 29 [.slice A0 n0 c0] ∧ Kit.Own 5 w9 A0 n0 c0 (bvs M0) ∧ Row w9 X (bvs P)) := Lib.hid ⟨ho0.keep k9 (fun e => e), hO0.keep k9 (fun _ _ e => e), hrx.keep0 k9⟩
      have HX : Hid (∀ j, ab X = some j → q ≠ 0 → ¬ (j = b + 3 ∨ ab A0 = some j)) := Lib.hid (fun j e hq0 h => by
        have hl0 := hxl.resolve_left hq0
        rw [habx] at e
        have hj := HM8.out.r.lt (by simpa [bvs] using hl0) j e
        rcases h with h | h
        · exact HM8.out.lo j (by omega) ⟨e, hl0⟩
        · have h7 := hA0 j h
          rcases h7 with h7 | h7
          · exact HM8.out.lo j (by omega) ⟨e, hl0⟩
          · exact HM8.out.lo j (by omega) ⟨e, hl0⟩)
      have HMM : Hid (¬ (m = b + 3 ∨ ab A0 = some m)) := Lib.hid (fun h => by
        have := ho0.lt
        rcases h with h | h
        · omega
        · have := hO0.lt m h; omega)
      apply hK1
      rw [hpc]
      have HPM := Lib.hid (show (bvs (M0 ++ mask E P)).length ≤ 1099511628000 by
        rw [bvs_length, List.length_append, mask_length]; have := HN.out; omega)
      have H80 := Lib.hid (And.intro ho0 hO0)
      have HMS := Lib.hid hms; have HML := Lib.hid hml; have HPQ := Lib.hid hq; have HQ16 := Lib.hid hq16; have HN0 := Lib.hid hn0; have HA0 := Lib.hid hA0; have HB9 := Lib.hid hb9; have HK9 := Lib.hid k9; have HM9 := Lib.hid hm9; have HHM := Lib.hid hM0
      clear hms hml hq hq16 hn0 hA0 hb9 k9 hm9 hM0 ho0 hO0 hrx habx hxl hpc hP
      gi_wp2
      gi_loopw [30] (fun vi wr => ∃ (k : Nat) (A' : Option Addr) (n' c' : Nat), k ≤ q ∧ vi = .int .i64 (k : Int) ∧ n' = (M0 ++ mask E (P.take k)).length ∧ Blk wr (b + 3) 29 [.slice A' n' c'] ∧ Kit.Own 5 wr A' n' c' (bvs (M0 ++ mask E (P.take k))) ∧ (ab A' = ab A0 ∨ ∃ j, ab A' = some j ∧ w9.heap.size ≤ j) ∧ Kp (fun j => j = b + 3 ∨ ab A0 = some j) w9 wr)
        (fun vi _ => q - (intOf vi).toNat)
      case atStart => exact ⟨0, A0, n0, c0, Nat.zero_le _, rfl, by rw [List.take_zero, mask_nil, List.append_nil]; exact HN0.out, H9.out.1, by rw [List.take_zero, mask_nil, List.append_nil]; exact H9.out.2.1, .inl rfl, Kp.refl _ _⟩
      case round =>
        obtain ⟨k, A', n', c', hk, rfl, hn', ho, hO, hA', hK⟩ := hrel
        by_cases hlt : k < q
        · obtain ⟨bx, ox, hXe, hbx, hcx⟩ := H9.out.2.2.at_ (i := k) (by rw [bvs_length, ← HPQ.out]; exact hlt)
          subst hXe
          obtain ⟨u, hu⟩ : ∃ u, u = gb P k := ⟨_, rfl⟩
          have hcx2 : wr.cell? ⟨bx, ox + k, none⟩ = some (.int .u8 (cb u)) := by
            rw [hK.cell (p := ⟨bx, ox + k, none⟩) hbx (HX.out bx rfl (by omega)), hcx, hu]
            have := Aes.gb_get P k (by rw [← HPQ.out]; exact hlt)
            rw [List.getElem?_eq_getElem (by rw [bvs_length, ← HPQ.out]; exact hlt)] at this
            exact this
          obtain ⟨v, hv⟩ : ∃ v, v = gb E k := ⟨_, rfl⟩
          have HU := Lib.hid hu; have HV := Lib.hid hv
          have hk16 : k < 16 := by have := HQ16.out; omega
          have HSN := Lib.hid (show M0 ++ mask E (P.take (k + 1)) = (M0 ++ mask E (P.take k)) ++ [u ^^^ v] by rw [mask_snoc E P k (by rw [← HPQ.out]; exact hlt), hu, hv, List.append_assoc])
          have HSL : Hid (n' + 1 ≤ 1099511628000) := Lib.hid (by
            have h1 := HPM.out
            have h2 : (M0 ++ mask E (P.take k)).length + 1 ≤ (bvs (M0 ++ mask E P)).length := by
              rw [bvs_length, List.length_append, List.length_append, mask_length, mask_length, List.length_take, ← HPQ.out]; omega
            omega)
          have HNEW : Hid (∀ j, ab A' = some j → j ≠ b + 3 ∧ j ≠ m ∧ (j = b + 2 ∨ b + 7 ≤ j)) := Lib.hid (fun j e => by
            have h3 := H9.out.1.lt
            have h4 := HB9.out.lt
            have h5 := HK9.out.size
            have h6 : b + 7 ≤ w8.heap.size := by have := H8.out.kp.size; omega
            rcases hA' with h | ⟨i, h, hi⟩
            · rw [h] at e
              refine ⟨fun h0 => ?_, fun h0 => HMM.out (.inr (by rw [← h0]; exact e)), HA0.out j e⟩
              have := HA0.out j e; omega
            · rw [h] at e; cases e
              exact ⟨by omega, by omega, .inr (by omega)⟩)
          have HO := Lib.hid hO; have HO1 := Lib.hid ho; have HA := Lib.hid hA'; have HKI := Lib.hid hK; have HNI := Lib.hid hn'
          have HBM := Lib.hid (HB9.out.keep hK HMM.out)
          clear hu hv hn' ho hO hA' hK hcx hbx
          gi_wp2
          refine reg_beginI (fun w' => Blk w' m 142 (bvs E)) (fun _ _ h => h) (by kernel_rfl) (by kernel_rfl) (HBM.out.keep (Kp.refl nob wr).drew (fun e => e)) (fun hS => ?_)
          have H0 := Lib.hid hS
          have HOd := Lib.hid (HO.out.keep (Kp.refl nob wr).drew (fun _ _ e => e))
          have HO1d := Lib.hid (HO1.out.keep (Kp.refl nob wr).drew (fun e => e))
          have HKd := Lib.hid (HKI.out.drew)
          clear hS
          have c1 : wr.drew.cell? ⟨b + 3, 0, none⟩ = some (.slice A' n' c') := HO1d.out.cell 0
          generalize wr.drew = wd at *
          refine reg_take (v := .int .u8 (cb u)) 1 (some 36) rfl rfl (by kernel_rfl) (by kernel_rfl) (by kernel_rfl) (by rfl) H0.out (fun w hw => by go_simp) ?_
          simp only [Act.put, List.setIfInBounds_toArray, List.set_cons_zero, List.set_cons_succ]
          refine reg_take (v := .int .i64 (k : Int)) 2 (some 37) rfl rfl (by kernel_rfl) (by kernel_rfl) (by kernel_rfl) (by rfl) H0.out (fun w hw => by go_simp) ?_
          simp only [Act.put, List.setIfInBounds_toArray, List.set_cons_zero, List.set_cons_succ]
          refine reg_take (v := .pointer (some ⟨m, k, none⟩)) 3 (some 38) rfl rfl (by kernel_rfl) (by kernel_rfl) (by kernel_rfl) (by rfl) H0.out (fun w hw => by go_simp; intro h; omega) ?_
          simp only [Act.put, List.setIfInBounds_toArray, List.set_cons_zero, List.set_cons_succ]
          refine reg_take (v := .int .u8 (cb v)) 4 (some 39) rfl rfl (by kernel_rfl) (by kernel_rfl) (by kernel_rfl) (by rfl) H0.out (fun w hw => by have c0 := blk_byte hw k (by have := HEL.out; rw [bvs_length] at this; omega); rw [← HV.out] at c0; go_simp) ?_
          simp only [Act.put, List.setIfInBounds_toArray, List.set_cons_zero, List.set_cons_succ]
          refine reg_take (v := .int .u8 (cb (u ^^^ v))) 5 (some 40) rfl rfl (by kernel_rfl) (by kernel_rfl) (by kernel_rfl) (by rfl) H0.out (fun w hw => by go_simp) ?_
          simp only [Act.put, List.setIfInBounds_toArray, List.set_cons_zero, List.set_cons_succ]
          have HSA := Lib.hid (H0.out.alloc (.cells #[.int .u8 (cb (u ^^^ v))] 5))
          obtain ⟨i0, hi0, hz0, hz1, hz2⟩ := info_parts (show (Try.prog.info? 5).map (fun i => (i.zero, i.size, i.bytes)) = some (some (.int .u8 0), 1, 1) by kernel_rfl)
          refine reg_stepOr (v := .slice A' n' c') (u := .slice (some ⟨wd.heap.size, 0, none⟩) 1 1) (wi := wd) (wj := wd.alloc (.cells #[.int .u8 (cb (u ^^^ v))] 5)) 0 6 (some 35) (some 41) rfl rfl rfl rfl (by kernel_rfl) (by rfl) (by rfl) (by go_simp) (by go_simp) H0.out HSA.out (fun _ => ?wa) (fun _ => ?wb)
          case wa =>
            simp only [Act.put, List.setIfInBounds_toArray, List.set_cons_zero, List.set_cons_succ]
            refine reg_step (w' := wd.alloc (.cells #[.int .u8 (cb (u ^^^ v))] 5)) (v := .slice (some ⟨wd.heap.size, 0, none⟩) 1 1) 6 (some 41) rfl rfl (by kernel_rfl) (by rfl) (by go_simp) HSA.out (fun _ => ?_)
            simp only [Act.put, List.setIfInBounds_toArray, List.set_cons_zero, List.set_cons_succ]
            refine reg_appK 7 (some 42) (.tmp 35) (.tmp 41) 29 rfl rfl rfl (by kernel_rfl) (by rfl) 1 (by decide) 5 i0 _ 1 u8s_under hi0 hz0 hz1 hz2 rfl A' n' c' (bvs (M0 ++ mask E (P.take k))) rfl (HOd.out.alloc _) ⟨wd.heap.size, 0, none⟩ 1 1 [.int .u8 (cb (u ^^^ v))] rfl rfl (row_one wd _ _) (bvs_one [u ^^^ v]) (by have := HSL.out; omega) (by have := HSL.out; omega) ?_
            intro A2 c2 w3 hown hg hab
            have hS3 : Blk w3 m 142 (bvs E) := HSA.out.keep (Kp.of_grown (F := rowF A') hg (fun k e => e)) (fun e => (HNEW.out m e).2.1 rfl)
            refine ⟨hS3, fun _ => ?_⟩
            simp only [Act.put, List.setIfInBounds_toArray, List.set_cons_zero, List.set_cons_succ]
            have HO3 := Lib.hid (show Kit.Own 5 w3 A2 (n' + 1) c2 (bvs (M0 ++ mask E (P.take (k + 1)))) by
              rw [HSN.out, bvs_append (M0 ++ mask E (P.take k))]; exact hown)
            have hb3 : Blk w3 (b + 3) 29 [.slice A' n' c'] := (HO1d.out.alloc _).keep (Kp.of_grown (F := rowF A') hg (fun k e => e)) (fun e => (HNEW.out _ e).1 rfl)
            have HB3 := Lib.hid (hb3.set_ 0 (.slice A2 (n' + 1) c2))
            have HNE : Hid (∀ j, ab A2 = some j → j ≠ b + 3) := Lib.hid (fun j e => by
              rcases hab with h | h
              · rw [h] at e; exact (HNEW.out j e).1
              · rw [h] at e; cases e; have := HO1d.out.lt; simp; omega)
            have HO4 := Lib.hid (HO3.out.far ⟨b + 3, 0, none⟩ (.slice A2 (n' + 1) c2) (fun j e => HNE.out j e))
            have HK4 : Hid (Kp (fun j => j = b + 3 ∨ ab A0 = some j) w9 (w3.setCell ⟨b + 3, 0, none⟩ (.slice A2 (n' + 1) c2))) := Lib.hid (by
              have h1 := (HKd.out.alloc (.cells #[.int .u8 (cb (u ^^^ v))] 5)).trans (Kp.of_grown (F := rowF A') hg (fun k e => e)) (fun j e => by
                rcases HA.out with h | ⟨i, h, hi⟩
                · exact .inl (.inr (by rw [← h]; exact e))
                · unfold rowF at e; rw [h] at e; cases e; exact .inr hi)
              exact h1.setCell (.inl (.inl rfl)) _)
            have HA4 : Hid (ab A2 = ab A0 ∨ ∃ j, ab A2 = some j ∧ w9.heap.size ≤ j) := Lib.hid (by
              rcases hab with h | h
              · rw [h]; exact HA.out
              · exact .inr ⟨_, h, by have := HKd.out.size; simp; omega⟩)
            have c3 := hb3.cell 0; have f3 := hb3.frozen 0
            refine reg_mute (w' := w3.setCell ⟨b + 3, 0, none⟩ (.slice A2 (n' + 1) c2)) 8 none rfl rfl (by kernel_rfl) (by rfl) (by go_simp) (hS3.far (fun e => HMM.out (.inl e)) _) (fun _ => ?_)
            simp only [Act.put, List.setIfInBounds_toArray, List.set_cons_zero, List.set_cons_succ]
            refine reg_end (by kernel_rfl) ?_
            clear hown hg hab hS3 hb3 c3 f3 c1
            gi_wp2
            go_roundw
            case rel => exact ⟨k + 1, A2, n' + 1, c2, by omega, by go_num, by rw [HSN.out, List.length_append, ← HNI.out]; rfl, HB3.out, HO4.out, HA4.out, HK4.out⟩
            case measure => simp [intOf]; omega
          case wb =>
            simp only [Act.put, List.setIfInBounds_toArray, List.set_cons_zero, List.set_cons_succ]
            have c2 : (wd.alloc (.cells #[.int .u8 (cb (u ^^^ v))] 5)).cell? ⟨b + 3, 0, none⟩ = some (.slice A' n' c') := (HO1d.out.alloc (.cells #[.int .u8 (cb (u ^^^ v))] 5)).cell 0
            refine reg_step (w' := wd.alloc (.cells #[.int .u8 (cb (u ^^^ v))] 5)) (v := .slice A' n' c') 0 (some 35) rfl rfl (by kernel_rfl) (by rfl) (by go_simp) HSA.out (fun _ => ?_)
            simp only [Act.put, List.setIfInBounds_toArray, List.set_cons_zero, List.set_cons_succ]
            clear c2
            refine reg_appK 7 (some 42) (.tmp 35) (.tmp 41) 29 rfl rfl rfl (by kernel_rfl) (by rfl) 1 (by decide) 5 i0 _ 1 u8s_under hi0 hz0 hz1 hz2 rfl A' n' c' (bvs (M0 ++ mask E (P.take k))) rfl (HOd.out.alloc _) ⟨wd.heap.size, 0, none⟩ 1 1 [.int .u8 (cb (u ^^^ v))] rfl rfl (row_one wd _ _) (bvs_one [u ^^^ v]) (by have := HSL.out; omega) (by have := HSL.out; omega) ?_
            intro A2 c2 w3 hown hg hab
            have hS3 : Blk w3 m 142 (bvs E) := HSA.out.keep (Kp.of_grown (F := rowF A') hg (fun k e => e)) (fun e => (HNEW.out m e).2.1 rfl)
            refine ⟨hS3, fun _ => ?_⟩
            simp only [Act.put, List.setIfInBounds_toArray, List.set_cons_zero, List.set_cons_succ]
            have HO3 := Lib.hid (show Kit.Own 5 w3 A2 (n' + 1) c2 (bvs (M0 ++ mask E (P.take (k + 1)))) by
              rw [HSN.out, bvs_append (M0 ++ mask E (P.take k))]; exact hown)
            have hb3 : Blk w3 (b + 3) 29 [.slice A' n' c'] := (HO1d.out.alloc _).keep (Kp.of_grown (F := rowF A') hg (fun k e => e)) (fun e => (HNEW.out _ e).1 rfl)
            have HB3 := Lib.hid (hb3.set_ 0 (.slice A2 (n' + 1) c2))
            have HNE : Hid (∀ j, ab A2 = some j → j ≠ b + 3) := Lib.hid (fun j e => by
              rcases hab with h | h
              · rw [h] at e; exact (HNEW.out j e).1
              · rw [h] at e; cases e; have := HO1d.out.lt; simp; omega)
            have HO4 := Lib.hid (HO3.out.far ⟨b + 3, 0, none⟩ (.slice A2 (n' + 1) c2) (fun j e => HNE.out j e))
            have HK4 : Hid (Kp (fun j => j = b + 3 ∨ ab A0 = some j) w9 (w3.setCell ⟨b + 3, 0, none⟩ (.slice A2 (n' + 1) c2))) := Lib.hid (by
              have h1 := (HKd.out.alloc (.cells #[.int .u8 (cb (u ^^^ v))] 5)).trans (Kp.of_grown (F := rowF A') hg (fun k e => e)) (fun j e => by
                rcases HA.out with h | ⟨i, h, hi⟩
                · exact .inl (.inr (by rw [← h]; exact e))
                · unfold rowF at e; rw [h] at e; cases e; exact .inr hi)
              exact h1.setCell (.inl (.inl rfl)) _)
            have HA4 : Hid (ab A2 = ab A0 ∨ ∃ j, ab A2 = some j ∧ w9.heap.size ≤ j) := Lib.hid (by
              rcases hab with h | h
              · rw [h]; exact HA.out
              · exact .inr ⟨_, h, by have := HKd.out.size; simp; omega⟩)
            have c3 := hb3.cell 0; have f3 := hb3.frozen 0
            refine reg_mute (w' := w3.setCell ⟨b + 3, 0, none⟩ (.slice A2 (n' + 1) c2)) 8 none rfl rfl (by kernel_rfl) (by rfl) (by go_simp) (hS3.far (fun e => HMM.out (.inl e)) _) (fun _ => ?_)
            simp only [Act.put, List.setIfInBounds_toArray, List.set_cons_zero, List.set_cons_succ]
            refine reg_end (by kernel_rfl) ?_
            clear hown hg hab hS3 hb3 c3 f3 c1
            gi_wp2
            go_roundw
            case rel => exact ⟨k + 1, A2, n' + 1, c2, by omega, by go_num, by rw [HSN.out, List.length_append, ← HNI.out]; rfl, HB3.out, HO4.out, HA4.out, HK4.out⟩
            case measure => simp [intOf]; omega
        · obtain rfl : q = k := by omega
          have htk : P.take q = P := List.take_of_length_le (by rw [HPQ.out]; omega)
          rw [htk] at hn' hO
          rw [← HMS.out] at hn' hO
          have hbx := H8.out.x.keep HK9.out (fun e => e)
          have hbx2 := hbx.keep hK (fun e => by
            rcases e with e | e
            · omega
            · have := HA0.out _ e; omega)
          have c4 : wr.cell? ⟨b + 4, 0, none⟩ = some (.int .i64 ((pre.length : Int) + 2)) := hbx2.cell 0
          have f4 := hbx2.frozen 0
          obtain ⟨N2, hN2⟩ : ∃ N2, N2 = pre.length + 3 := ⟨_, rfl⟩
          have e2 : IntKind.i64.wrap ((pre.length : Int) + 2 + 1) = (N2 : Int) := by rw [IntKind.wrap_i64]; have := HPL.out; omega
          have hkk : Kp (fun j => j = b + 3 ∨ j = b + 4 ∨ ab A0 = some j) w8 (wr.setCell ⟨b + 4, 0, none⟩ (.int .i64 (N2 : Int))) :=
            (((HK9.out.nob _).trans hK (fun j e => .inl (e.elim .inl (fun e => .inr (.inr e))))).setCell (.inl (.inr (.inl rfl))) _)
          have HKK := Lib.hid hkk
          have HOT : Hid (KeepsOthers w8 (wr.setCell ⟨b + 4, 0, none⟩ (.int .i64 (N2 : Int)))) := Lib.hid (hkk.others (fun j o hj ho => by
            rcases hj with rfl | rfl | e
            · have h1 : w8.heap[b + 3]? = _ := H80.out.1
              rw [h1] at ho; cases ho; rfl
            · have h1 : w8.heap[b + 4]? = _ := H8.out.x
              rw [h1] at ho; cases ho; rfl
            · rcases H80.out.2.2 with ⟨h5, _⟩ | ⟨g5, cap, cur, h5, _, h6, _⟩
              · injection h5 with h5; rw [h5] at e; cases e
              · injection h5 with h5
                rw [h5] at e; cases e
                rw [h6] at ho; cases ho; rfl))
          have HNW : Hid (∀ j, ab A' = some j → j = b + 2 ∨ b + 7 ≤ j) := Lib.hid (fun j e => by
            have h5 := HK9.out.size
            have h6 : b + 7 ≤ w8.heap.size := by have := H8.out.kp.size; omega
            rcases hA' with h | ⟨i, h, hi⟩
            · exact HA0.out j (by rw [← h]; exact e)
            · rw [h] at e; cases e; exact .inr (by omega))
          have HM2 : Hid (Mr b W R nn l w7 (pre ++ [x]) (wr.setCell ⟨b + 4, 0, none⟩ (.int .i64 (N2 : Int)))) := Lib.hid (by
            refine ⟨⟨A', n', c', hn', ho.far (by simp) _, hO.far _ _ (fun j e => ?_), fun j e => ?_⟩, ?_, ?_⟩
            · have := HNW.out j e
              simp only; omega
            · exact HNW.out j e
            · have := hbx2.set_ 0 (.int .i64 (N2 : Int))
              rw [List.length_append, show pre.length + [x].length + 2 = N2 by rw [hN2]; rfl]
              exact this
            · exact H8.out.kp.trans hkk (fun j e => by
                have h7 := H8.out.kp.size
                rcases e with e | e | e
                · exact .inl (.inl (.inr (.inl e)))
                · exact .inl (.inl (.inr (.inr e)))
                · rcases HA0.out j e with h | h
                  · exact .inl (.inl (.inl h))
                  · exact .inl (.inr h)))
          clear hbx hbx2 hkk hN2
          gi_wp2
          exact ⟨HOT.out, HKK.out.mono (fun j _ e => by
            rcases e with e | e | e
            · exact .inl (.inr (.inl e))
            · exact .inl (.inr (.inr e))
            · rcases HA0.out j e with h | h
              · exact .inl (.inl h)
              · exact .inr h), HM2.out⟩
    clear hK1
    refine reg_startI (fun w' => Kp nob w8 w') (fun _ _ h => h) (by kernel_rfl) (by kernel_rfl) (Kp.refl nob w8).drew (fun wd hd => ?_)
    have H0 := Lib.hid hd
    clear hd
    refine reg_take (v := .pointer (some ⟨p, 0, none⟩)) 0 (some 20) rfl rfl (by kernel_rfl) (by kernel_rfl) (by kernel_rfl) (by rfl) H0.out (fun w hw => by have c0 : w.cell? ⟨b, 0, none⟩ = _ := (HM8.out.s.keep hw (fun e => e)).cell 0; go_simp) ?_
    simp only [Act.put, List.setIfInBounds_toArray, List.set_cons_zero, List.set_cons_succ]
    refine reg_take (v := .pointer (some ⟨p, 0, none⟩)) 1 (some 21) rfl rfl (by kernel_rfl) (by kernel_rfl) (by kernel_rfl) (by rfl) H0.out (fun w hw => by go_simp) ?_
    simp only [Act.put, List.setIfInBounds_toArray, List.set_cons_zero, List.set_cons_succ]
    refine reg_take (v := .pointer (some ⟨p, 0, none⟩)) 2 (some 22) rfl rfl (by kernel_rfl) (by kernel_rfl) (by kernel_rfl) (by rfl) H0.out (fun w hw => by go_simp) ?_
    simp only [Act.put, List.setIfInBounds_toArray, List.set_cons_zero, List.set_cons_succ]
    refine reg_take (v := .pointer (some ⟨g, 0, none⟩)) 3 (some 23) rfl rfl (by kernel_rfl) (by kernel_rfl) (by kernel_rfl) (by rfl) H0.out (fun w hw => by have c0 : w.cell? ⟨p, 0, none⟩ = _ := (HG.out.1.keep hw (fun e => e)).cell 0; go_simp) ?_
    simp only [Act.put, List.setIfInBounds_toArray, List.set_cons_zero, List.set_cons_succ]
    refine reg_load 4 (some 24) 53 (.tmp 4) rfl rfl rfl (by kernel_rfl) (by kernel_rfl) (by kernel_rfl) (by rfl) H0.out (b + 1) 0 rfl (bvs nn) _ (fun _ x => (HM8.out.no.keep x (fun e => e)).range) arrN rfl (by rw [HNL.out]; kernel_rfl) ?_
    simp only [Act.put, List.setIfInBounds_toArray, List.set_cons_zero, List.set_cons_succ]
    refine reg_take (v := .int .i64 ((pre.length + 2 : Nat) : Int)) 5 (some 25) rfl rfl (by kernel_rfl) (by kernel_rfl) (by kernel_rfl) (by rfl) H0.out (fun w hw => by have c0 : w.cell? ⟨b + 4, 0, none⟩ = _ := (H8.out.x.keep hw (fun e => e)).cell 0; go_simp) ?_
    simp only [Act.put, List.setIfInBounds_toArray, List.set_cons_zero, List.set_cons_succ]
    refine reg_callOr (w' := wd.alloc (.cells (bvs none16).toArray 142)) (v := .pointer (some ⟨wd.heap.size, 0, none⟩)) 6 8 (some 26) (some 10) rfl rfl rfl rfl (by kernel_rfl) (by rfl) (by rfl) _ _ (exec_func 74 _ _ [.agg (bvs nn).toArray, .int .i64 ((pre.length + 2 : Nat) : Int)] rfl (by kernel_rfl) rfl) (by go_simp; rfl) (H0.out.alloc _) ?wa1 (fun _ => ?wb1)
    case wa1 =>
      refine (block_any nn (pre.length + 2) wd HNN.out HPL.out).mono ?_
      rintro e w1 ⟨rfl, k1⟩
      have H1 := Lib.hid (H0.out.trans k1 (fun _ e => e.elim))
      refine ⟨_, rfl, H1.out, fun _ => ?_⟩
      simp only [Act.put, List.setIfInBounds_toArray, List.set_cons_zero, List.set_cons_succ]
      refine reg_callOr (w' := w1.alloc (.cells (bvs none16).toArray 142)) (v := .pointer (some ⟨w1.heap.size, 0, none⟩)) 7 8 (some 27) (some 10) rfl rfl rfl rfl (by kernel_rfl) (by rfl) (by rfl) _ _ (exec_func 103 _ _ [.pointer (some ⟨g, 0, none⟩), .agg (bvs (nb nn (pre.length + 2))).toArray] rfl (by kernel_rfl) rfl) (by go_simp; rfl) (H1.out.alloc _) ?wa2 (fun _ => ?wb2)
      case wa2 =>
        refine (Aes.seal_any (nb nn (pre.length + 2)) W g R w1 (nb_length _ _ HNN.out) (HG.out.2.keep0 H1.out)).mono ?_
        rintro e w2 ⟨rfl, k2⟩
        rw [← HE.out]
        have H2 := Lib.hid (H1.out.trans k2 (fun _ e => e.elim))
        refine ⟨_, rfl, H2.out, fun _ => ?_⟩
        simp only [Act.put, List.setIfInBounds_toArray, List.set_cons_zero, List.set_cons_succ]
        refine reg_step (w' := w2.alloc (.cells (bvs none16).toArray 142)) (v := .pointer (some ⟨w2.heap.size, 0, none⟩)) 8 (some 10) rfl rfl (by kernel_rfl) (by rfl) (by go_simp; rfl) (H2.out.alloc _) (fun _ => ?_)
        simp only [Act.put, List.setIfInBounds_toArray, List.set_cons_zero, List.set_cons_succ]
        have hbk : Blk (w2.alloc (.cells (bvs none16).toArray 142)) w2.heap.size 142 (bvs none16) := Blk.new' rfl rfl
        have hge := H2.out.size
        refine reg_store 9 none 142 (.tmp 10) (.tmp 27) rfl rfl rfl (by kernel_rfl) (by rfl) w2.heap.size _ _ (bvs E) hbk rfl rfl (by rw [HEL.out, HZ.out]) (by rw [HEL.out]; kernel_rfl) (bvs_one _) ?_
        intro w99 hB99 k99 z99
        have hkk : Kp nob w8 w99 := (H2.out.alloc _).since k99 (fun i e => by unfold oneB at e; omega)
        refine ⟨hkk, fun _ => ?_⟩
        simp only [Act.put, List.setIfInBounds_toArray, List.set_cons_zero, List.set_cons_succ]
        exact reg_end (by kernel_rfl) (hcont w2.heap.size w99 hkk hB99 hge)
      case wb2 =>
        simp only [Act.put, List.setIfInBounds_toArray, List.set_cons_zero, List.set_cons_succ]
        have hbk : Blk (w1.alloc (.cells (bvs none16).toArray 142)) w1.heap.size 142 (bvs none16) := Blk.new' rfl rfl
        have hge := H1.out.size
        have H1a := Lib.hid (H1.out.alloc (.cells (bvs none16).toArray 142))
        generalize w1.alloc (.cells (bvs none16).toArray 142) = w1a at *
        refine reg_call 7 (some 27) rfl rfl (by kernel_rfl) (by rfl) _ _ (exec_func 103 _ _ [.pointer (some ⟨g, 0, none⟩), .agg (bvs (nb nn (pre.length + 2))).toArray] rfl (by kernel_rfl) rfl) ?_
        refine (Aes.seal_any (nb nn (pre.length + 2)) W g R w1a (nb_length _ _ HNN.out) (HG.out.2.keep0 H1a.out)).mono ?_
        rintro e w2 ⟨rfl, k2⟩
        rw [← HE.out]
        have H2 := Lib.hid (H1a.out.trans k2 (fun _ e => e.elim))
        refine ⟨_, rfl, H2.out, fun _ => ?_⟩
        simp only [Act.put, List.setIfInBounds_toArray, List.set_cons_zero, List.set_cons_succ]
        have hbk2 := hbk.keep k2 (fun e => e)
        refine reg_store 9 none 142 (.tmp 10) (.tmp 27) rfl rfl rfl (by kernel_rfl) (by rfl) w1.heap.size _ _ (bvs E) hbk2 rfl rfl (by rw [HEL.out, HZ.out]) (by rw [HEL.out]; kernel_rfl) (bvs_one _) ?_
        intro w99 hB99 k99 z99
        have hkk : Kp nob w8 w99 := H2.out.since k99 (fun i e => by unfold oneB at e; omega)
        refine ⟨hkk, fun _ => ?_⟩
        simp only [Act.put, List.setIfInBounds_toArray, List.set_cons_zero, List.set_cons_succ]
        exact reg_end (by kernel_rfl) (hcont w1.heap.size w99 hkk hB99 hge)
    case wb1 =>
      simp only [Act.put, List.setIfInBounds_toArray, List.set_cons_zero, List.set_cons_succ]
      have hbk : Blk (wd.alloc (.cells (bvs none16).toArray 142)) wd.heap.size 142 (bvs none16) := Blk.new' rfl rfl
      have hge := H0.out.size
      have H0a := Lib.hid (H0.out.alloc (.cells (bvs none16).toArray 142))
      generalize wd.alloc (.cells (bvs none16).toArray 142) = wda at *
      refine reg_call 6 (some 26) rfl rfl (by kernel_rfl) (by rfl) _ _ (exec_func 74 _ _ [.agg (bvs nn).toArray, .int .i64 ((pre.length + 2 : Nat) : Int)] rfl (by kernel_rfl) rfl) ?_
      refine (block_any nn (pre.length + 2) wda HNN.out HPL.out).mono ?_
      rintro e w1 ⟨rfl, k1⟩
      have H1 := Lib.hid (H0a.out.trans k1 (fun _ e => e.elim))
      refine ⟨_, rfl, H1.out, fun _ => ?_⟩
      simp only [Act.put, List.setIfInBounds_toArray, List.set_cons_zero, List.set_cons_succ]
      refine reg_call 7 (some 27) rfl rfl (by kernel_rfl) (by rfl) _ _ (exec_func 103 _ _ [.pointer (some ⟨g, 0, none⟩), .agg (bvs (nb nn (pre.length + 2))).toArray] rfl (by kernel_rfl) rfl) ?_
      refine (Aes.seal_any (nb nn (pre.length + 2)) W g R w1 (nb_length _ _ HNN.out) (HG.out.2.keep0 H1.out)).mono ?_
      rintro e w2 ⟨rfl, k2⟩
      rw [← HE.out]
      have H2 := Lib.hid (H1.out.trans k2 (fun _ e => e.elim))
      refine ⟨_, rfl, H2.out, fun _ => ?_⟩
      simp only [Act.put, List.setIfInBounds_toArray, List.set_cons_zero, List.set_cons_succ]
      have hbk2 := (hbk.keep k1 (fun e => e)).keep k2 (fun e => e)
      refine reg_store 9 none 142 (.tmp 10) (.tmp 27) rfl rfl rfl (by kernel_rfl) (by rfl) wd.heap.size _ _ (bvs E) hbk2 rfl rfl (by rw [HEL.out, HZ.out]) (by rw [HEL.out]; kernel_rfl) (bvs_one _) ?_
      intro w99 hB99 k99 z99
      have hkk : Kp nob w8 w99 := H2.out.since k99 (fun i e => by unfold oneB at e; omega)
      refine ⟨hkk, fun _ => ?_⟩
      simp only [Act.put, List.setIfInBounds_toArray, List.set_cons_zero, List.set_cons_succ]
      exact reg_end (by kernel_rfl) (hcont wd.heap.size w99 hkk hB99 hge)
end Go.Proofs.Ytmmpmncioifeoaa.Gcm
namespace Go.Proofs.Ytmmpmncioifeoaa.Ghash
set_option linter.unusedVariables false
set_option linter.unusedSimpArgs false
open Go Go.RowKit Kit Gf
open Aes (gb tb tb_length gb_tb tb_gb tb_ext tb_eq)
open Field (cb)

/-- A word of 64 bits as a cell holds it. -/
def dw (x : UInt64) : Int := (x.toNat : Int)
theorem dw_inj {a b : UInt64} (h : dw a = dw b) : a = b := UInt64.toNat_inj.1 (by unfold dw at h; omega)
theorem dw_lt (x : UInt64) : 0 ≤ dw x ∧ dw x < 18446744073709551616 := by have := x.toNat_lt; unfold dw; omega
theorem dw_wrap (n : Nat) : IntKind.u64.wrap (n : Int) = dw (UInt64.ofNat n) := by
  rw [IntKind.wrap_u64, dw]; simp
theorem ofInt_dw (a : UInt64) : (BitVec.ofInt 64 (dw a)).toNat = a.toNat := by
  rw [dw, BitVec.ofInt_natCast, BitVec.toNat_ofNat]; exact Nat.mod_eq_of_lt a.toNat_lt
@[go_sem] theorem dw_and (a b : UInt64) : bits .and .u64 (dw a) (dw b) = dw (a &&& b) := by
  show IntKind.u64.wrap ((BitVec.ofInt 64 (dw a) &&& BitVec.ofInt 64 (dw b)).toNat : Int) = _
  rw [BitVec.toNat_and, ofInt_dw, ofInt_dw, dw_wrap, ← UInt64.toNat_and, UInt64.ofNat_toNat]
@[go_sem] theorem dw_or (a b : UInt64) : bits .or .u64 (dw a) (dw b) = dw (a ||| b) := by
  show IntKind.u64.wrap ((BitVec.ofInt 64 (dw a) ||| BitVec.ofInt 64 (dw b)).toNat : Int) = _
  rw [BitVec.toNat_or, ofInt_dw, ofInt_dw, dw_wrap, ← UInt64.toNat_or, UInt64.ofNat_toNat]
@[go_sem] theorem dw_xor (a b : UInt64) : bits .xor .u64 (dw a) (dw b) = dw (a ^^^ b) := by
  show IntKind.u64.wrap ((BitVec.ofInt 64 (dw a) ^^^ BitVec.ofInt 64 (dw b)).toNat : Int) = _
  rw [BitVec.toNat_xor, ofInt_dw, ofInt_dw, dw_wrap, ← UInt64.toNat_xor, UInt64.ofNat_toNat]
theorem dw_shl (a : UInt64) (k : Nat) (h : k < 64) : IntKind.u64.wrap (dw a * 2 ^ k) = dw (a <<< UInt64.ofNat k) := by
  have e : dw a * 2 ^ k = ((a.toNat * 2 ^ k : Nat) : Int) := by simp [dw]
  rw [e, IntKind.wrap_u64, dw, UInt64.toNat_shiftLeft, UInt64.toNat_ofNat', Nat.shiftLeft_eq, Nat.mod_eq_of_lt (a := k) (by omega), Nat.mod_eq_of_lt h]; simp
theorem dw_shr (a : UInt64) (k : Nat) (h : k < 64) : dw a / 2 ^ k = dw (a >>> UInt64.ofNat k) := by
  have e : dw a / 2 ^ k = ((a.toNat / 2 ^ k : Nat) : Int) := by simp [dw]
  rw [e, dw, UInt64.toNat_shiftRight, UInt64.toNat_ofNat', Nat.shiftRight_eq_div_pow, Nat.mod_eq_of_lt (a := k) (by omega), Nat.mod_eq_of_lt h]
@[go_sem] theorem dw_shl8 (a : UInt64) : IntKind.u64.wrap (dw a * (256 : Int)) = dw (a <<< 8) := dw_shl a 8 (by omega)
@[go_sem] theorem dw_shl63 (a : UInt64) : IntKind.u64.wrap (dw a * (9223372036854775808 : Int)) = dw (a <<< 63) := dw_shl a 63 (by omega)
@[go_sem] theorem dw_shr1 (a : UInt64) : dw a / (2 : Int) = dw (a >>> 1) := dw_shr a 1 (by omega)
@[go_sem] theorem dw_u8 (x : UInt8) : IntKind.u64.wrap (cb x) = dw x.toUInt64 := by
  have := x.toNat_lt; rw [IntKind.wrap_u64, cb, dw, UInt8.toNat_toUInt64]; omega

/-- Two words are one if their bits are. -/
theorem u64_ext [Inhabited Field.SqTab] {x y : UInt64} (h : ∀ i, i < 64 → x.toNat.testBit i = y.toNat.testBit i) : x = y := by
  apply UInt64.toNat_inj.1
  apply Nat.eq_of_testBit_eq
  intro i
  by_cases hi : i < 64
  · exact h i hi
  · have hp : 2 ^ 64 ≤ 2 ^ i := Nat.pow_le_pow_right (by decide) (by omega)
    have := x.toNat_lt; have := y.toNat_lt
    rw [Nat.testBit_lt_two_pow (by omega), Nat.testBit_lt_two_pow (by omega)]
/-- k bytes behind o as a word, the highest first. -/
def wd (b : List UInt8) (o : Nat) : Nat → UInt64
  | 0 => 0
  | k + 1 => wd b o k <<< 8 ||| (gb b (o + k)).toUInt64
theorem wd_zero (b : List UInt8) (o : Nat) : wd b o 0 = 0 := rfl
theorem wd_succ (b : List UInt8) (o k : Nat) : wd b o (k + 1) = wd b o k <<< 8 ||| (gb b (o + k)).toUInt64 := rfl
def wn (b : List UInt8) (o : Nat) : Nat → Nat
  | 0 => 0
  | k + 1 => wn b o k * 256 + (gb b (o + k)).toNat
theorem wn_lt (b : List UInt8) (o k : Nat) : wn b o k < 256 ^ k := by
  induction k with
  | zero => simp [wn]
  | succ k ih => have := (gb b (o + k)).toNat_lt; rw [wn, Nat.pow_succ]; omega
theorem wd_nat (b : List UInt8) (o k : Nat) (h : k ≤ 8) : (wd b o k).toNat = wn b o k := by
  induction k with
  | zero => rfl
  | succ k ih =>
    have hx := (gb b (o + k)).toNat_lt
    have hl := wn_lt b o k
    have hp : 256 ^ k ≤ 256 ^ 7 := Nat.pow_le_pow_right (by decide) (by omega)
    rw [wd_succ, UInt64.toNat_or, UInt64.toNat_shiftLeft, ih (by omega), UInt8.toNat_toUInt64, wn]
    rw [show (8 : UInt64).toNat % 64 = 8 from rfl, Nat.shiftLeft_eq, Nat.mod_eq_of_lt (by omega)]
    rw [← Nat.shiftLeft_eq, Nat.shiftLeft_add_eq_or_of_lt (by simpa using hx)]
theorem wn_byte (b : List UInt8) (o k i : Nat) (h : i < k) : wn b o k / 256 ^ (k - 1 - i) % 256 = (gb b (o + i)).toNat := by
  induction k with
  | zero => omega
  | succ k ih =>
    have hx := (gb b (o + k)).toNat_lt
    rw [wn]
    by_cases hi : i = k
    · subst hi; rw [show i + 1 - 1 - i = 0 by omega, Nat.pow_zero, Nat.div_one]; omega
    · rw [show k + 1 - 1 - i = (k - 1 - i) + 1 by omega, Nat.pow_succ, Nat.mul_comm (256 ^ _), ← Nat.div_div_eq_div_mul]
      rw [show (wn b o k * 256 + (gb b (o + k)).toNat) / 256 = wn b o k by omega]
      exact ih (by omega)
theorem wn_bit (b : List UInt8) (o k i : Nat) (h : i < 8 * k) : wn b o k / 2 ^ (8 * k - 1 - i) % 2 = bit b (8 * o + i) := by
  have e := wn_byte b o k (i / 8) (by omega)
  have e2 : 2 ^ (8 * k - 1 - i) = 256 ^ (k - 1 - i / 8) * 2 ^ (7 - i % 8) := by
    rw [show (256 : Nat) = 2 ^ 8 from rfl, ← Nat.pow_mul, ← Nat.pow_add]; congr 1; omega
  rw [bit, show (8 * o + i) / 8 = o + i / 8 by omega, show (8 * o + i) % 8 = i % 8 by omega, ← e, e2, ← Nat.div_div_eq_div_mul]
  have hm : 7 - i % 8 ≤ 7 := by omega
  generalize wn b o k / 256 ^ (k - 1 - i / 8) = y
  have : 7 - i % 8 = 0 ∨ 7 - i % 8 = 1 ∨ 7 - i % 8 = 2 ∨ 7 - i % 8 = 3 ∨ 7 - i % 8 = 4 ∨ 7 - i % 8 = 5 ∨ 7 - i % 8 = 6 ∨ 7 - i % 8 = 7 := by omega
  rcases this with h | h | h | h | h | h | h | h <;> rw [h] <;> omega
/-- A block's first word, and its second. -/
def hi (b : List UInt8) : UInt64 := wd b 0 8
def lo (b : List UInt8) : UInt64 := wd b 8 8
theorem hi_eq (b : List UInt8) : hi b = wd b 0 8 := rfl
theorem lo_eq (b : List UInt8) : lo b = wd b 8 8 := rfl
theorem hi_bit (b : List UInt8) (i : Nat) (h : i < 64) : (hi b).toNat / 2 ^ (63 - i) % 2 = bit b i := by
  have := wn_bit b 0 8 i (by omega)
  rw [hi, wd_nat _ _ _ (Nat.le_refl _)]; rw [show 8 * 0 + i = i by omega] at this; exact this
theorem lo_bit (b : List UInt8) (i : Nat) (h : i < 64) : (lo b).toNat / 2 ^ (63 - i) % 2 = bit b (64 + i) := by
  have := wn_bit b 8 8 i (by omega)
  rw [lo, wd_nat _ _ _ (Nat.le_refl _)]; exact this
theorem hi_test (b : List UInt8) (i : Nat) (h : i < 64) : (hi b).toNat.testBit i = decide (bit b (63 - i) = 1) := by
  rw [Nat.testBit_eq_decide_div_mod_eq, ← hi_bit b (63 - i) (by omega), show 63 - (63 - i) = i by omega]
theorem lo_test (b : List UInt8) (i : Nat) (h : i < 64) : (lo b).toNat.testBit i = decide (bit b (127 - i) = 1) := by
  rw [Nat.testBit_eq_decide_div_mod_eq, show 127 - i = 64 + (63 - i) by omega, ← lo_bit b (63 - i) (by omega), show 63 - (63 - i) = i by omega]
theorem hi_byte (b : List UInt8) (i : Nat) (h : i < 8) : (hi b).toNat / 2 ^ (56 - 8 * i) % 256 = (gb b i).toNat := by
  have := wn_byte b 0 8 i h
  rw [hi, wd_nat _ _ _ (Nat.le_refl _), show 2 ^ (56 - 8 * i) = 256 ^ (8 - 1 - i) by rw [show (256 : Nat) = 2 ^ 8 from rfl, ← Nat.pow_mul]; congr 1; omega, this, Nat.zero_add]
theorem lo_byte (b : List UInt8) (i : Nat) (h : i < 8) : (lo b).toNat / 2 ^ (56 - 8 * i) % 256 = (gb b (8 + i)).toNat := by
  have := wn_byte b 8 8 i h
  rw [lo, wd_nat _ _ _ (Nat.le_refl _), show 2 ^ (56 - 8 * i) = 256 ^ (8 - 1 - i) by rw [show (256 : Nat) = 2 ^ 8 from rfl, ← Nat.pow_mul]; congr 1; omega, this]
theorem one_of_bit (a b : Nat) (ha : a < 2) (hb : b < 2) : decide ((a + b) % 2 = 1) = (decide (a = 1) ^^ decide (b = 1)) := by
  have : a = 0 ∨ a = 1 := by omega
  have : b = 0 ∨ b = 1 := by omega
  rcases ‹a = 0 ∨ a = 1› with rfl | rfl <;> rcases ‹b = 0 ∨ b = 1› with rfl | rfl <;> rfl
theorem hi_plus [Inhabited Field.SqTab] (a b : List UInt8) : hi (plus a b) = hi a ^^^ hi b := by
  refine u64_ext fun i h => ?_
  rw [UInt64.toNat_xor, Nat.testBit_xor, hi_test _ _ h, hi_test _ _ h, hi_test _ _ h, bit_plus _ _ _ (by omega), one_of_bit _ _ (bit_lt _ _) (bit_lt _ _)]
theorem lo_plus [Inhabited Field.SqTab] (a b : List UInt8) : lo (plus a b) = lo a ^^^ lo b := by
  refine u64_ext fun i h => ?_
  rw [UInt64.toNat_xor, Nat.testBit_xor, lo_test _ _ h, lo_test _ _ h, lo_test _ _ h, bit_plus _ _ _ (by omega), one_of_bit _ _ (bit_lt _ _) (bit_lt _ _)]
theorem hi_none : hi none16 = 0 := by decide +kernel
theorem lo_none : lo none16 = 0 := by decide +kernel
theorem and_zero [Inhabited Field.SqTab] (x : UInt64) : x &&& -(0 : UInt64) = 0 := by
  refine u64_ext fun i h => ?_
  rw [UInt64.toNat_and, show (-(0 : UInt64)).toNat = 0 from rfl, Nat.and_zero]; rfl
theorem and_ones [Inhabited Field.SqTab] (x : UInt64) : x &&& -(1 : UInt64) = x := by
  refine u64_ext fun i h => ?_
  rw [UInt64.toNat_and, show (-(1 : UInt64)).toNat = 2 ^ 64 - 1 from rfl, Nat.testBit_and, Nat.testBit_two_pow_sub_one]
  simp [h]
theorem lo_last (a : List UInt8) : lo a &&& 1 = UInt64.ofNat (bit a 127) := by
  apply UInt64.toNat_inj.1
  have h := lo_bit a 63 (by omega)
  have hl := bit_lt a 127
  rw [UInt64.toNat_and, show (1 : UInt64).toNat = 1 from rfl, Nat.and_one_is_mod, UInt64.toNat_ofNat', Nat.mod_eq_of_lt (a := bit a 127) (by omega)]
  rw [show 64 + 63 = 127 from rfl] at h
  rw [← h]; simp
/-- What is left of x to the power of 128, as a first word. -/
def rest64 : UInt64 := 16212958658533785600
theorem rest_test (i : Nat) (h : i < 64) : rest64.toNat.testBit i = decide (135 / 2 ^ (63 - i) % 2 = 1) := by
  have : ∀ i : Fin 64, rest64.toNat.testBit i.1 = decide (135 / 2 ^ (63 - i.1) % 2 = 1) := by decide +kernel
  exact this ⟨i, h⟩
theorem hi_shift [Inhabited Field.SqTab] (a : List UInt8) : hi (shift a) = hi a >>> 1 ^^^ rest64 &&& -(UInt64.ofNat (bit a 127)) := by
  have hl := bit_lt a 127
  refine u64_ext fun i h => ?_
  rw [hi_test _ _ h, bit_shift _ _ (by omega), UInt64.toNat_xor, Nat.testBit_xor, UInt64.toNat_shiftRight, show (1 : UInt64).toNat % 64 = 1 from rfl, Nat.testBit_shiftRight]
  rw [one_of_bit _ _ (by split <;> first | exact bit_lt _ _ | omega) (Nat.mod_lt _ (by decide))]
  congr 1
  · by_cases h63 : i = 63
    · subst h63
      have := (hi a).toNat_lt
      rw [Nat.testBit_lt_two_pow (by omega)]; rfl
    · rw [if_pos (by omega), hi_test _ _ (by omega), show 63 - i - 1 = 63 - (1 + i) by omega]
  · by_cases hq : bit a 127 = 1
    · rw [if_pos hq, hq, show UInt64.ofNat 1 = 1 from rfl, and_ones, rest_test i h]
    · rw [if_neg hq, show bit a 127 = 0 by omega, show UInt64.ofNat 0 = 0 from rfl, and_zero]; simp
theorem lo_shift [Inhabited Field.SqTab] (a : List UInt8) : lo (shift a) = lo a >>> 1 ||| hi a <<< 63 := by
  refine u64_ext fun i h => ?_
  have e0 : ∀ c : Nat, c < 256 → c / 2 ^ (127 - i) % 2 = 0 := fun c hc => by
    rw [Nat.div_eq_of_lt (Nat.lt_of_lt_of_le (show c < 2 ^ 8 by omega) (Nat.pow_le_pow_right (by decide) (by omega)))]
  have hlt : ∀ j, bit a j < 2 := bit_lt a
  rw [lo_test _ _ h, bit_shift _ _ (by omega), if_pos (by omega), e0 _ (by split <;> omega), Nat.add_zero, Nat.mod_eq_of_lt (hlt _)]
  rw [UInt64.toNat_or, Nat.testBit_or, UInt64.toNat_shiftRight, UInt64.toNat_shiftLeft, show (1 : UInt64).toNat % 64 = 1 from rfl, show (63 : UInt64).toNat % 64 = 63 from rfl, Nat.testBit_shiftRight, Nat.testBit_mod_two_pow, Nat.testBit_shiftLeft]
  by_cases h63 : i = 63
  · subst h63
    have := (lo a).toNat_lt
    rw [Nat.testBit_lt_two_pow (x := (lo a).toNat) (by omega)]
    simp only [Bool.false_or]
    rw [hi_test _ _ (by omega)]; simp
  · rw [lo_test _ _ (by omega), show 127 - i - 1 = 127 - (1 + i) by omega]
    simp [h, show ¬ 63 ≤ i by omega]
/-- A block, or none, as a bit says. -/
def keep (a : List UInt8) (q : Nat) : List UInt8 := if q = 1 then a else none16
theorem keep_length (a : List UInt8) (q : Nat) (h : a.length = 16) : (keep a q).length = 16 := by
  unfold keep; split
  · exact h
  · rfl
theorem hi_keep [Inhabited Field.SqTab] (a : List UInt8) (q : Nat) (h : q < 2) : hi a &&& -(UInt64.ofNat q) = hi (keep a q) := by
  have : q = 0 ∨ q = 1 := by omega
  rcases this with rfl | rfl
  · rw [show UInt64.ofNat 0 = 0 from rfl, and_zero, keep, if_neg (by decide), hi_none]
  · rw [show UInt64.ofNat 1 = 1 from rfl, and_ones, keep, if_pos rfl]
theorem lo_keep [Inhabited Field.SqTab] (a : List UInt8) (q : Nat) (h : q < 2) : lo a &&& -(UInt64.ofNat q) = lo (keep a q) := by
  have : q = 0 ∨ q = 1 := by omega
  rcases this with rfl | rfl
  · rw [show UInt64.ofNat 0 = 0 from rfl, and_zero, keep, if_neg (by decide), lo_none]
  · rw [show UInt64.ofNat 1 = 1 from rfl, and_ones, keep, if_pos rfl]
theorem prod_keep (b a : List UInt8) (k : Nat) : plus (prod b a k) (keep (shifts a k) (bit b k)) = prod b a (k + 1) := by
  by_cases h : bit b k = 1
  · rw [prod_one _ _ _ h, keep, if_pos h]
  · rw [prod_no _ _ _ h, keep, if_neg h, plus_none _ (prod_length _ _ _)]
theorem neg_dw (x : UInt64) : IntKind.u64.wrap (-(dw x)) = dw (-x) := by
  have := x.toNat_lt
  rw [IntKind.wrap_u64, dw, dw, UInt64.toNat_neg]
  simp only [UInt64.size]
  omega
@[go_sem] theorem neg_sem (x : UInt64) : IntKind.u64.wrap (-(dw x)) = dw (-x) := neg_dw x
@[go_sem] theorem rest_and (y : UInt64) : bits .and .u64 16212958658533785600 (dw y) = dw (rest64 &&& y) := by
  rw [← dw_and]; congr 1
theorem and_one (x : UInt64) : bits .and .u64 (dw x) 1 = dw (x &&& 1) := by
  rw [← dw_and]; congr 1
theorem lo_last_dw (a : List UInt8) : bits .and .u64 (dw (lo a)) 1 = dw (UInt64.ofNat (bit a 127)) := by rw [and_one, lo_last]
theorem shr_one (x : UInt64) (k q : Nat) (hk : k < 64) (h : x.toNat / 2 ^ k % 2 = q) : bits .and .u64 (dw (x >>> UInt64.ofNat k)) 1 = dw (UInt64.ofNat q) := by
  rw [and_one]
  congr 1
  apply UInt64.toNat_inj.1
  rw [UInt64.toNat_and, show (1 : UInt64).toNat = 1 from rfl, Nat.and_one_is_mod, UInt64.toNat_shiftRight, UInt64.toNat_ofNat', Nat.mod_eq_of_lt (a := k) (by omega), Nat.mod_eq_of_lt hk, Nat.shiftRight_eq_div_pow, h, UInt64.toNat_ofNat', Nat.mod_eq_of_lt (by have := Nat.mod_lt (x.toNat / 2 ^ k) (show 0 < 2 by decide); omega)]
theorem hi_shr (b : List UInt8) (i : Nat) (h : i < 64) : bits .and .u64 (dw (hi b) / 2 ^ (63 - i)) 1 = dw (UInt64.ofNat (bit b i)) := by
  rw [dw_shr _ _ (by omega)]; exact shr_one _ _ _ (by omega) (hi_bit b i h)
theorem lo_shr (b : List UInt8) (i : Nat) (h : 64 ≤ i) (h2 : i < 128) : bits .and .u64 (dw (lo b) / 2 ^ (127 - i)) 1 = dw (UInt64.ofNat (bit b i)) := by
  have := lo_bit b (i - 64) (by omega)
  rw [show 63 - (i - 64) = 127 - i by omega, show 64 + (i - 64) = i by omega] at this
  rw [dw_shr _ _ (by omega)]; exact shr_one _ _ _ (by omega) this
/-- A byte of a word. -/
theorem hi_cb (b : List UInt8) (i : Nat) (h : i < 8) : IntKind.u8.wrap (dw (hi b) / 2 ^ (56 - 8 * i)) = cb (gb b i) := by
  have := hi_byte b i h
  rw [show dw (hi b) / 2 ^ (56 - 8 * i) = (((hi b).toNat / 2 ^ (56 - 8 * i) : Nat) : Int) by simp [dw], IntKind.wrap_u8, cb]
  omega
theorem lo_cb (b : List UInt8) (i : Nat) (h : i < 8) : IntKind.u8.wrap (dw (lo b) / 2 ^ (56 - 8 * i)) = cb (gb b (8 + i)) := by
  have := lo_byte b i h
  rw [show dw (lo b) / 2 ^ (56 - 8 * i) = (((lo b).toNat / 2 ^ (56 - 8 * i) : Nat) : Int) by simp [dw], IntKind.wrap_u8, cb]
  omega
theorem dw_zero : dw 0 = 0 := rfl
attribute [irreducible] dw wd wn hi lo keep
end Go.Proofs.Ytmmpmncioifeoaa.Ghash
