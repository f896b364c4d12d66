/- The document's own register in memory: a new one; it goes on. -/
import Derived.Test.YtchdobneipfghaaZMtA
import Derived.Test.YtchdobneipfghaaZDiskWr
namespace Go.Proofs.Ytchdobneipfghaa.Meter
set_option linter.unusedVariables false
set_option linter.unusedSimpArgs false
open Go Go.RowKit Kit Disk

/-- The document's register at m. -/
structure Fb (w : World) (m : Nat) (X : Option Addr) (t : Mt) : Prop where
  b : Blk w m 52 (mcells t X)
  k : Mk t
theorem Fb.keep {w w2 : World} {m : Nat} {X : Option Addr} {t : Mt} {G : Nat → Prop} (h : Fb w m X t) (k : Kp G w w2) (hm : ¬ G m) : Fb w2 m X t := ⟨h.b.keep k hm, h.k⟩
theorem Fb.keep0 {w w2 : World} {m : Nat} {X : Option Addr} {t : Mt} (h : Fb w m X t) (k : Kp nob w w2) : Fb w2 m X t := h.keep k (fun e => e)
theorem mcells_at (t : Mt) (X : Option Addr) (h : t.root.length = 32) : (mcells t X)[0]? = some (.int .i64 (t.count : Int)) ∧ (mcells t X)[1]? = some (.int .i64 t.epoch) ∧ (mcells t X)[34]? = some (.int .i64 (t.most : Int)) ∧ (mcells t X)[35]? = some (.pointer X) := by
  have hl := vcells_length t h
  refine ⟨rfl, rfl, ?_, ?_⟩
  · rw [mcells, List.getElem?_append_right (by omega), hl]; rfl
  · rw [mcells, List.getElem?_append_right (by omega), hl]; rfl
theorem Fb.cells {w : World} {m : Nat} {X : Option Addr} {t : Mt} (h : Fb w m X t) : w.cell? ⟨m, 0, none⟩ = some (.int .i64 (t.count : Int)) ∧ w.cell? ⟨m, 1, none⟩ = some (.int .i64 t.epoch) ∧ w.cell? ⟨m, 34, none⟩ = some (.int .i64 (t.most : Int)) ∧ w.cell? ⟨m, 35, none⟩ = some (.pointer X) := by
  obtain ⟨h0, h1, h2, h3⟩ := mcells_at t X h.k.root
  exact ⟨by rw [h.b.cell]; exact h0, by rw [h.b.cell]; exact h1, by rw [h.b.cell]; exact h2, by rw [h.b.cell]; exact h3⟩
theorem Fb.range {w : World} {m : Nat} {X : Option Addr} {t : Mt} (h : Fb w m X t) : w.rangeAt m 2 (bvs t.root) :=
  h.b.part 2 _ (fun j v hv => by
    show (.int .i64 (t.count : Int) :: .int .i64 t.epoch :: bvs t.root ++ [.int .i64 (t.most : Int), .pointer X])[2 + j]? = _
    rw [Nat.add_comm 2 j]
    show (bvs t.root ++ [.int .i64 (t.most : Int), .pointer X])[j]? = _
    rw [List.getElem?_append_left (List.getElem?_eq_some_iff.1 hv).1]; exact hv)
theorem on_cells (t : Mt) (e : Int) (r : List UInt8) (X : Option Addr) (c : Nat) (hc : c = t.count + 1) (h : t.root.length = 32) (hr : r.length = 32) : splice (((mcells t X).set 0 (.int .i64 (c : Int))).set 1 (.int .i64 e)) 2 (bvs r) = mcells (t.on e r) X := by
  subst hc
  show splice (.int .i64 ((t.count + 1 : Nat) : Int) :: .int .i64 e :: (bvs t.root ++ [.int .i64 (t.most : Int), .pointer X])) 2 (bvs r) = .int .i64 ((t.count + 1 : Nat) : Int) :: .int .i64 e :: (bvs r ++ [.int .i64 (t.most : Int), .pointer X])
  rw [splice, bvs_length, hr]
  show ([_, _] : List Value) ++ (bvs r ++ (bvs t.root ++ ([.int .i64 (t.most : Int), .pointer X] : List Value)).drop 32) = _
  rw [List.drop_append_of_le_length (by rw [bvs_length, h]; decide), List.drop_of_length_le (by rw [bvs_length, h]; decide)]
  rfl
theorem fbuilt (n : Int) (X : Option Addr) (w : World) : (Instr.build 52 #[(3, .int .i64 n), (4, .pointer X)]).run Try.prog w = .ok (.agg (vcells none_ ++ ([.int .i64 n, .pointer X] : List Value)).toArray) w := by kernel_rfl
set_option maxHeartbeats 1000000 in
set_option maxRecDepth 100000 in
theorem fMNew (n : Int) (X : Option Addr) (w : World) :
    Calls Try.prog 11 #[.int .i64 n, .pointer X] w fun e w' => e = .returned (.pointer (some ⟨w.heap.size, 0, none⟩)) ∧ Fb w' w.heap.size X (fresh n) ∧ Kp nob w w' := by
  obtain ⟨q, hq⟩ : ∃ q : Nat, q = lim n := ⟨_, rfl⟩
  have HF := Lib.hid (show mcells (fresh n) X = vcells none_ ++ [.int .i64 (q : Int), .pointer X] by rw [hq]; rfl)
  have HQ := Lib.hid (show q = min n.toNat 1099511627776 from hq)
  clear hq
  by_cases h0 : n < 0
  · obtain rfl : q = 0 := by have := HQ.out; omega
    clear HQ
    go_enter Try.func11, Try.ntmps11
    go_wp2_with (refine wpList_built rfl 52 _ rfl (.agg (vcells none_ ++ ([.int .i64 ((0 : Nat) : Int), .pointer X] : List Value)).toArray) (by exact exec_bld _ _ rfl [(3, .int .i64 ((0 : Nat) : Int)), (4, .pointer X)] _ rfl (fbuilt _ _ _)) ?_)
    go_ret
    refine ⟨rfl, ⟨?_, fresh_ok n⟩, (Kp.refl nob w).alloc _⟩
    rw [HF.out]
    exact Blk.new w _ _
  · by_cases h1 : 1099511627776 < n
    · obtain rfl : q = 1099511627776 := by have := HQ.out; omega
      clear HQ
      go_enter Try.func11, Try.ntmps11
      go_wp2_with (refine wpList_built rfl 52 _ rfl (.agg (vcells none_ ++ ([.int .i64 ((1099511627776 : Nat) : Int), .pointer X] : List Value)).toArray) (by exact exec_bld _ _ rfl [(3, .int .i64 ((1099511627776 : Nat) : Int)), (4, .pointer X)] _ rfl (fbuilt _ _ _)) ?_)
      go_ret
      refine ⟨rfl, ⟨?_, fresh_ok n⟩, (Kp.refl nob w).alloc _⟩
      rw [HF.out]
      exact Blk.new w _ _
    · obtain rfl : n = (q : Int) := by have := HQ.out; omega
      have d0 : decide ((q : Int) < 0) = false := decide_eq_false h0
      have d1 : decide ((1099511627776 : Int) < (q : Int)) = false := decide_eq_false h1
      clear HQ h0 h1
      go_enter Try.func11, Try.ntmps11
      go_wp2_with (refine wpList_built rfl 52 _ rfl (.agg (vcells none_ ++ ([.int .i64 (q : Int), .pointer X] : List Value)).toArray) (by exact exec_bld _ _ rfl [(3, .int .i64 (q : Int)), (4, .pointer X)] _ rfl (fbuilt _ _ _)) ?_)
      go_ret
      refine ⟨rfl, ⟨?_, fresh_ok _⟩, (Kp.refl nob w).alloc _⟩
      rw [HF.out]
      exact Blk.new w _ _
end Go.Proofs.Ytchdobneipfghaa.Meter
