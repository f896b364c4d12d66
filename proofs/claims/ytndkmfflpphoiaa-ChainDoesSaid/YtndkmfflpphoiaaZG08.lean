/- Lemmas: Chk DskDn. -/
import Derived.Test.YtndkmfflpphoiaaZG07
import Derived.RangeFuncBound
import Derived.Shelf.Abstract
import Derived.Shelf.RegionOpen
import Derived.OwnWalkIn
import Derived.TacticsInMore
import Derived.LoopNIn
import Derived.LoopIn
set_option linter.unusedVariables false
set_option linter.unusedSimpArgs false
namespace Go.Proofs.Ytndkmfflpphoiaa.Disk
open Go Go.RowKit Kit
attribute [local go_sem] Oper.semAt_some
theorem slice_from256 (A : Option Addr) (n c i : Nat) (hi : i ≤ n) (w : World) : (Instr.slice 36 (.slice A n c) (some (.int .i64 i)) none none).run Try.prog w = .ok (.slice (cutA A c i) (n - i) (c - i)) w :=
  run_slice_from _ 5 u8_under (fun _ => by kernel_rfl) A n c i hi w
theorem u8_szr (w : World) : (sizeOf 5).run Try.prog w = .ok 1 w := by kernel_rfl
theorem slice_max256 (A : Option Addr) (n c i j : Nat) (hi : i ≤ j) (hj : j ≤ c) (w : World) : (Instr.slice 36 (.slice A n c) (some (.int .i64 i)) (some (.int .i64 j)) (some (.int .i64 j))).run Try.prog w = .ok (.slice (cutA A j i) (j - i) (j - i)) w := by
  have he : Try.prog.elem 36 = 5 := by kernel_rfl
  rw [run_slice_lhm w 36 A n c (by kernel_rfl) .i64 .i64 .i64 i j j (by omega) (by omega) (by omega) (by omega), he, u8_szr]
  simp [Result.andThen, sliced, cutA]
/-- The pieces of a slice of n bytes, each of 256, as values. -/
def pcw (A : Option Addr) (n k : Nat) : Value := .slice (cutA A (256 * k + min 256 (n - 256 * k)) (256 * k)) (min 256 (n - 256 * k)) (min 256 (n - 256 * k))
set_option maxRecDepth 100000 in
theorem chunk_any (A : Option Addr) (n c : Nat) (w : World) :
    Calls Try.prog 37 #[.slice A n c, .int .i64 256] w fun e w' => e = .returned (.func (.func 54) #[] #[.pointer (some ⟨w.heap.size, 0, none⟩), .pointer (some ⟨w.heap.size + 1, 0, none⟩)]) ∧ w' = (w.alloc (.cells #[.slice A n c] 36)).alloc (.cells #[.int .i64 256] 3) := by
  go_enter Try.func37, Try.ntmps37
  go_wp2
  go_ret
  exact ⟨rfl, rfl⟩
set_option maxRecDepth 100000 in
set_option maxHeartbeats 2000000 in
theorem chunk_iter (m Bs Bn : Nat) (F : Nat → Prop) (A : Option Addr) (n c : Nat) (hn : n ≤ 140737488355328) (hc : n ≤ c) (hFs : ¬ F Bs) (hFn : ¬ F Bn) (w : World) (cBs : w.cell? ⟨Bs, 0, none⟩ = some (.slice A n c)) (cBn : w.cell? ⟨Bn, 0, none⟩ = some (.int .i64 256)) (ls : Bs < w.heap.size) (ln : Bn < w.heap.size) :
    Iter m Try.prog 54 #[.pointer (some ⟨Bs, 0, none⟩), .pointer (some ⟨Bn, 0, none⟩)] (fun i _ => #[pcw A n i]) (fun i _ _ => i < (n + 255) / 256) (Kp F) ((n + 255) / 256) w := by
  intro l J Jx W hW hJ hX hY h0
  have hBs : W.cell? ⟨Bs, 0, none⟩ = some (.slice A n c) := (hW.cell (p := ⟨Bs, 0, none⟩) ls (fun e => e)).trans cBs
  have hBn : W.cell? ⟨Bn, 0, none⟩ = some (.int .i64 256) := (hW.cell (p := ⟨Bn, 0, none⟩) ln (fun e => e)).trans cBn
  have hs1 : Bs < W.heap.size := Nat.lt_of_lt_of_le ls hW.size
  have hs2 : Bn < W.heap.size := Nat.lt_of_lt_of_le ln hW.size
  clear cBs cBn ls ln hW w
  show CallsIn Fence.wide m Try.prog 54 #[.func (.yield l) #[] #[], .pointer (some ⟨Bs, 0, none⟩), .pointer (some ⟨Bn, 0, none⟩)] W _
  refine callsIn_of_wp Try.func54 rfl trivial ?_ rfl
  simp only [Try.ntmps54, List.size_toArray, List.length_cons, List.length_nil, Nat.reduceAdd, Nat.reduceSub, Array.replicate_succ, Array.replicate_zero, List.push_toArray, List.append_toArray, List.nil_append, List.cons_append]
  gi_wp2
  gi_loopw [4] (fun i wr => ∃ k q : Nat, q = 256 * k ∧ q ≤ n + 255 ∧ i = .int .i64 q ∧ J k wr ∧ Kp F W wr)
    (fun i _ => n + 255 - (intOf i).toNat)
  case atStart => exact ⟨0, 0, rfl, Nat.zero_le _, rfl, h0, Kp.refl _ _⟩
  case round =>
    obtain ⟨k, q, hq, hk, rfl, hJs, hnx⟩ := hrel
    have c1 : wr.cell? ⟨Bs, 0, none⟩ = some (.slice A n c) := (hnx.cell (p := ⟨Bs, 0, none⟩) hs1 hFs).trans hBs
    have c2 : wr.cell? ⟨Bn, 0, none⟩ = some (.int .i64 256) := (hnx.cell (p := ⟨Bn, 0, none⟩) hs2 hFn).trans hBn
    have HQ := Lib.hid hq; clear hq
    by_cases hlt : q < n
    · have hsl := slice_from256 A n c q (by omega)
      obtain ⟨e, he⟩ : ∃ e, e = min 256 (n - q) := ⟨_, rfl⟩
      have hmin : (if ((n - q : Nat) : Int) < 256 then ((n - q : Nat) : Int) else 256) = (e : Int) := by
        rcases Nat.lt_or_ge (n - q) 256 with h | h
        · rw [if_pos (by omega), he, Nat.min_eq_right (by omega)]
        · rw [if_neg (by omega), he, Nat.min_eq_left (by omega)]; rfl
      obtain ⟨j, hj⟩ : ∃ j, j = q + e := ⟨_, rfl⟩
      have he2 : e ≤ n - q ∧ e ≤ 256 ∧ 0 < e := by omega
      have e1 : IntKind.i64.wrap ((q : Int) + (e : Int)) = (j : Int) := by rw [IntKind.wrap_i64]; omega
      have hsl2 : ∀ w, (Instr.slice 36 (.slice A n c) (some (.int .i64 q)) (some (.int .i64 j)) (some (.int .i64 j))).run Try.prog w = .ok (pcw A n k) w := fun w => by
        rw [slice_max256 A n c q j (by omega) (by omega), pcw, ← HQ.out, ← he, hj, show q + e - q = e by omega]
      have e2 : IntKind.i64.wrap ((q : Int) + 256) = ((q + 256 : Nat) : Int) := by rw [IntKind.wrap_i64]; omega
      have HE := Lib.hid (And.intro he (And.intro hj he2))
      clear he hj he2
      gi_wp2
      refine wpIn_wide.2 ?_
      go_quiet (fail)
      have HK := Lib.hid (hnx.trans ⟨rfl, rfl, rfl, Nat.le_refl _, fun _ _ _ => rfl⟩ (fun _ e => .inl e) : Kp F W (wr.drewN nq))
      have HJ := Lib.hid (hJ _ _ _ hJs (⟨rfl, rfl, rfl, Nat.le_refl _, fun _ _ _ => rfl⟩ : Kp nob wr (wr.drewN nq)))
      have c3 : (wr.drewN nq).cell? ⟨Bs, 0, none⟩ = some (.slice A n c) := c1
      have c4 : (wr.drewN nq).cell? ⟨Bn, 0, none⟩ = some (.int .i64 256) := c2
      have hz1 : Bs < (wr.drewN nq).heap.size := Nat.lt_of_lt_of_le hs1 hnx.size
      have hz2 : Bn < (wr.drewN nq).heap.size := Nat.lt_of_lt_of_le hs2 hnx.size
      clear hmin hsl c1 c2 hnx hJs
      generalize wr.drewN nq = wd at *
      obtain ⟨fn, tmps, assign, body, hy, hR⟩ := hY k 0 wd HJ.out (by have := HQ.out; omega)
      gi_wp2
      refine ⟨(fun h => by cases h), hR.mono ?_⟩
      rintro r W3 (⟨rfl, hJ3, hk3⟩ | ⟨rfl, hJx3⟩)
      · have HK3 := Lib.hid (HK.out.trans hk3 (fun _ e => .inl e))
        have c5 : W3.cell? ⟨Bs, 0, none⟩ = some (.slice A n c) := (hk3.cell (p := ⟨Bs, 0, none⟩) hz1 hFs).trans c3
        have c6 : W3.cell? ⟨Bn, 0, none⟩ = some (.int .i64 256) := (hk3.cell (p := ⟨Bn, 0, none⟩) hz2 hFn).trans c4
        have HJ3 := Lib.hid hJ3
        clear hJ3 hk3 c3 c4
        gi_wp2
        go_roundw
        case rel => exact ⟨k + 1, q + 256, by have := HQ.out; omega, by omega, by go_num, HJ3.out, HK3.out⟩
        case measure => simp [intOf]; omega
      · gi_wp2
        refine bodyPost_ret (results_none rfl _ _ _) rfl ?_
        exact ⟨⟨_, rfl⟩, .inr hJx3⟩
    · have HJ : Hid (J ((n + 255) / 256) wr) := Lib.hid (by rw [show (n + 255) / 256 = k by have := HQ.out; omega]; exact hJs)
      clear hJs
      gi_wp2
      go_end0
      exact ⟨⟨_, rfl⟩, .inl HJ.out⟩
theorem down_any (D : Dk) (g N S : Nat) (W : Option Addr) (cW : Nat) (w : World) (h : Cd w g N S W cW D) :
    Calls Try.prog 40 #[.pointer (some ⟨g, 0, none⟩)] w fun e w' => e = .returned (.bool D.off) ∧ w = w' := by
  obtain ⟨c0, c1, c2, c3, c4, c5, c6⟩ := h.cells
  clear c0 c1 c2 c4 c5 c6 h
  go_enter Try.func40, Try.ntmps40
  go_wp2
  go_ret
  exact ⟨rfl, rfl⟩
end Go.Proofs.Ytndkmfflpphoiaa.Disk
