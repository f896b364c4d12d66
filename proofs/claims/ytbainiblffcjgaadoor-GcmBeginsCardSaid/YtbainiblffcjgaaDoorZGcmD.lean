/- Contracts of the library's Chunk, at bytes: what it answers, and what that does when it is ranged over. -/
import Derived.Test.YtbainiblffcjgaaDoorZRegI
import Derived.Test.YtbainiblffcjgaaDoorZGcmC
import Derived.Test.YtbainiblffcjgaaDoorZGb
import Derived.RangeFuncBound
import Derived.RangeFuncLeaves
import Derived.Shelf.Abstract
import Derived.Shelf.RegionOpen
import Derived.WalkKit
import Derived.OwnWalkIn
import Derived.TacticsInMore
import Derived.LoopNIn
import Derived.LoopIn
import Derived.BigQuiet
import Derived.Deep.QuietTactic
namespace Go.Proofs.YtbainiblffcjgaaDoor.Gcm
set_option linter.unusedVariables false
set_option linter.unusedSimpArgs false
open Go Go.RowKit Kit
attribute [local go_sem] Oper.semAt_some

/-- The pieces of a slice of n bytes, each of 16, as values. -/
def pcv (A : Option Addr) (n k : Nat) : Value := .slice (cutA A (16 * k + min 16 (n - 16 * k)) (16 * k)) (min 16 (n - 16 * k)) (min 16 (n - 16 * k))
theorem chunk_any (A : Option Addr) (n c : Nat) (w : World) :
    Calls Tryd.prog 29 #[.slice A n c, .int .i64 16] w fun e w' => e = .returned (.func (.func 41) #[] #[.pointer (some ⟨w.heap.size, 0, none⟩), .pointer (some ⟨w.heap.size + 1, 0, none⟩)]) ∧ w' = (w.alloc (.cells #[.slice A n c] 24)).alloc (.cells #[.int .i64 16] 3) := by
  go_enter Tryd.func29, Tryd.ntmps29
  go_wp2
  go_ret
  exact ⟨rfl, rfl⟩

set_option maxRecDepth 100000 in
set_option maxHeartbeats 2000000 in
theorem chunk1_in (m l Bs Bn : Nat) (F : Nat → Prop) (A : Option Addr) (n c : Nat) (hn : n ≤ 140737488355328) (hc : n ≤ c) (hFs : ¬ F Bs) (hFn : ¬ F Bn) (J Jx : List Nat → World → Prop)
    (hY : ∀ pre x W, J pre W → pre.length < (n + 15) / 16 → YieldAt Fence.wide (m - 1) Tryd.prog l #[pcv A n x] W fun e W' =>
      (e = .returned (.bool true) ∧ J (pre ++ [x]) W' ∧ Kp F W W') ∨ (e = .returned (.bool false) ∧ Jx (pre ++ [x]) W'))
    (hJd : ∀ pre W j, J pre W → J pre (W.drewN j))
    (W : World) (hBs : W.cell? ⟨Bs, 0, none⟩ = some (.slice A n c)) (hBn : W.cell? ⟨Bn, 0, none⟩ = some (.int .i64 16)) (hs1 : Bs < W.heap.size) (hs2 : Bn < W.heap.size) (h0 : J [] W) :
    CallsIn Fence.wide m Tryd.prog 41 #[.func (.yield l) #[] #[], .pointer (some ⟨Bs, 0, none⟩), .pointer (some ⟨Bn, 0, none⟩)] W fun e W' => (∃ v, e = .returned v) ∧
      ((∃ ys, ys = List.range ((n + 15) / 16) ∧ J ys W') ∨ (∃ pre, Jx pre W')) := by
  refine callsIn_of_wp Tryd.func41 rfl trivial ?_ rfl
  simp only [Tryd.ntmps41, List.size_toArray, List.length_cons, List.length_nil, Nat.reduceAdd, Nat.reduceSub, Array.replicate_succ, Array.replicate_zero, List.push_toArray, List.append_toArray, List.nil_append, List.cons_append]
  gi_wp2
  gi_loopw [4] (fun i wr => ∃ k q : Nat, q = 16 * k ∧ q ≤ n + 15 ∧ i = .int .i64 q ∧ J (List.range k) wr ∧ Kp F W wr)
    (fun i _ => n + 15 - (intOf i).toNat)
  case atStart => exact ⟨0, 0, rfl, Nat.zero_le _, rfl, h0, Kp.refl _ _⟩
  case round =>
    obtain ⟨k, q, hq, hk, rfl, hJs, hnx⟩ := hrel
    have c1 : wr.cell? ⟨Bs, 0, none⟩ = some (.slice A n c) := (hnx.cell (p := ⟨Bs, 0, none⟩) hs1 hFs).trans hBs
    have c2 : wr.cell? ⟨Bn, 0, none⟩ = some (.int .i64 16) := (hnx.cell (p := ⟨Bn, 0, none⟩) hs2 hFn).trans hBn
    have HQ := Lib.hid hq; clear hq
    by_cases hlt : q < n
    · have hsl := slice_from A n c q (by omega)
      obtain ⟨e, he⟩ : ∃ e, e = min 16 (n - q) := ⟨_, rfl⟩
      have hmin : (if ((n - q : Nat) : Int) < 16 then ((n - q : Nat) : Int) else 16) = (e : Int) := by
        rcases Nat.lt_or_ge (n - q) 16 with h | h
        · rw [if_pos (by omega), he, Nat.min_eq_right (by omega)]
        · rw [if_neg (by omega), he, Nat.min_eq_left (by omega)]; rfl
      obtain ⟨j, hj⟩ : ∃ j, j = q + e := ⟨_, rfl⟩
      have he2 : e ≤ n - q ∧ e ≤ 16 ∧ 0 < e := by omega
      have e1 : IntKind.i64.wrap ((q : Int) + (e : Int)) = (j : Int) := by rw [IntKind.wrap_i64]; omega
      have hsl2 : ∀ w, (Instr.slice 24 (.slice A n c) (some (.int .i64 q)) (some (.int .i64 j)) (some (.int .i64 j))).run Tryd.prog w = .ok (pcv A n k) w := fun w => by
        rw [slice_max A n c q j (by omega) (by omega), pcv, ← HQ.out, ← he, hj, show q + e - q = e by omega]
      have e2 : IntKind.i64.wrap ((q : Int) + 16) = ((q + 16 : Nat) : Int) := by rw [IntKind.wrap_i64]; omega
      have HE := Lib.hid (And.intro he (And.intro hj he2))
      clear he hj he2
      gi_wp2
      refine wpIn_wide.2 ?_
      go_quiet (fail)
      have HK := Lib.hid (hnx.trans ⟨rfl, rfl, rfl, Nat.le_refl _, fun _ _ _ => rfl⟩ (fun _ e => .inl e) : Kp F W (wr.drewN nq))
      have HJ := Lib.hid (hJd _ _ nq hJs)
      have c3 : (wr.drewN nq).cell? ⟨Bs, 0, none⟩ = some (.slice A n c) := c1
      have c4 : (wr.drewN nq).cell? ⟨Bn, 0, none⟩ = some (.int .i64 16) := c2
      have hz1 : Bs < (wr.drewN nq).heap.size := Nat.lt_of_lt_of_le hs1 hnx.size
      have hz2 : Bn < (wr.drewN nq).heap.size := Nat.lt_of_lt_of_le hs2 hnx.size
      clear hmin hsl c1 c2 hnx hJs
      generalize wr.drewN nq = wd at *
      obtain ⟨fn, tmps, assign, body, hy, hR⟩ := hY _ k wd HJ.out (by rw [List.length_range]; have := HQ.out; omega)
      gi_wp2
      refine ⟨(fun h => by cases h), hR.mono ?_⟩
      rintro r W3 (⟨rfl, hJ3, hk3⟩ | ⟨rfl, hJx3⟩)
      · have HK3 := Lib.hid (HK.out.trans hk3 (fun _ e => .inl e))
        have c5 : W3.cell? ⟨Bs, 0, none⟩ = some (.slice A n c) := (hk3.cell (p := ⟨Bs, 0, none⟩) hz1 hFs).trans c3
        have c6 : W3.cell? ⟨Bn, 0, none⟩ = some (.int .i64 16) := (hk3.cell (p := ⟨Bn, 0, none⟩) hz2 hFn).trans c4
        have HJ3 := Lib.hid (show J (List.range (k + 1)) W3 by rw [List.range_succ]; exact hJ3)
        clear hJ3 hk3 c3 c4
        gi_wp2
        go_roundw
        case rel => exact ⟨k + 1, q + 16, by have := HQ.out; omega, by omega, by go_num, HJ3.out, HK3.out⟩
        case measure => simp [intOf]; omega
      · gi_wp2
        refine bodyPost_ret (results_none rfl _ _ _) rfl ?_
        exact ⟨⟨_, rfl⟩, .inr ⟨_, hJx3⟩⟩
    · have HJ : Hid (J (List.range ((n + 15) / 16)) wr) := Lib.hid (by rw [show (n + 15) / 16 = k by have := HQ.out; omega]; exact hJs)
      clear hJs
      gi_wp2
      go_end0
      exact ⟨⟨_, rfl⟩, .inl ⟨_, rfl, HJ.out⟩⟩
theorem chunk_stops (m Bs Bn : Nat) (F : Nat → Prop) (A : Option Addr) (n c : Nat) (hn : n ≤ 140737488355328) (hc : n ≤ c) (hFs : ¬ F Bs) (hFn : ¬ F Bn) (w : World) (hBs : w.cell? ⟨Bs, 0, none⟩ = some (.slice A n c)) (hBn : w.cell? ⟨Bn, 0, none⟩ = some (.int .i64 16)) (hs1 : Bs < w.heap.size) (hs2 : Bn < w.heap.size) :
    SeqStopsK Fence.wide m Tryd.prog 41 #[.pointer (some ⟨Bs, 0, none⟩), .pointer (some ⟨Bn, 0, none⟩)] (fun x : Nat => #[pcv A n x]) (Kp F) (fun ys => ys = List.range ((n + 15) / 16)) (fun _ => True) ((n + 15) / 16) w := fun l J Jx W hW hJ _ hY h0 => by
  refine (chunk1_in m l Bs Bn F A n c hn hc hFs hFn J Jx hY (fun pre W j h => hJ pre W _ none h ⟨rfl, rfl, rfl, Nat.le_refl _, fun _ _ _ => rfl⟩ (fun r e => by cases e)) W ((hW.cell (p := ⟨Bs, 0, none⟩) hs1).trans hBs) ((hW.cell (p := ⟨Bn, 0, none⟩) hs2).trans hBn) (Nat.lt_of_lt_of_le hs1 hW.size) (Nat.lt_of_lt_of_le hs2 hW.size) h0).mono ?_
  rintro e W' ⟨he, ⟨ys, rfl, hj⟩ | ⟨pre, hj⟩⟩
  · exact ⟨he, .inl ⟨_, rfl, hj⟩⟩
  · exact ⟨he, .inr ⟨pre, trivial, hj⟩⟩
end Go.Proofs.YtbainiblffcjgaaDoor.Gcm
