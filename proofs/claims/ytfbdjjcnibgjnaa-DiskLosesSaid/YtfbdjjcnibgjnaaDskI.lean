/- The library's IndexFunc and DeleteFunc over writes that wait. -/
import Derived.Test.YtfbdjjcnibgjnaaDskH
namespace Go.Proofs.Ytfbdjjcnibgjnaa.Disk
set_option linter.unusedVariables false
set_option linter.unusedSimpArgs false
open Go Go.RowKit Kit

/-- The closure that asks for a sector's number. -/
def predV (gi : Nat) : Value := .func (.func 29) #[] #[.pointer (some ⟨gi, 0, none⟩)]
/-- Where the first of them is. -/
def FirstAt (xs : List (Nat × List UInt8)) (i : Nat) (r : Int) : Prop := (∃ (k : Nat) (x : Nat × List UInt8), r = k ∧ xs[k]? = some x ∧ x.1 = i ∧ ∀ y ∈ xs.take k, y.1 ≠ i) ∨ (r = -1 ∧ ∀ y ∈ xs, y.1 ≠ i)
theorem take_snoc {α : Type} (xs : List α) (k : Nat) (x : α) (h : xs[k]? = some x) : xs.take (k + 1) = xs.take k ++ [x] := by
  rw [List.take_add_one, h]; rfl
set_option maxHeartbeats 4000000 in
set_option maxRecDepth 100000 in
theorem index_any (xs : List (Nat × List UInt8)) (gi i : Nat) (W : Option Addr) (n c : Nat) (w : World) (hw : OwnK 257 60 w W n c (xs.flatMap wcell)) (hn : xs.length = n) (hl : ∀ x ∈ xs, x.2.length = 256) (hm : n ≤ 100000)
    (hi : w.cell? ⟨gi, 0, none⟩ = some (.int .i64 (i : Int))) (hg : gi < w.heap.size) :
    Calls Try.prog 31 #[.slice W n c, predV gi] w fun e w' => ∃ r, e = .returned (.int .i64 r) ∧ FirstAt xs i r ∧ Kp nob w w' := by
  have HW := Lib.hid hw; have HN := Lib.hid hn; have HL := Lib.hid hl; have HI := Lib.hid (And.intro hi hg)
  unfold predV
  clear hw hn hl hi hg
  go_enter Try.func31, Try.ntmps31
  go_wp2
  go_loopw [5, 8] (fun _ vi wr => ∃ (k : Nat), k ≤ n ∧ vi = .int .i64 k ∧ (∀ y ∈ xs.take k, y.1 ≠ i) ∧ Kp nob w wr)
    (fun _ vi _ => n - (intOf vi).toNat)
  case atStart => exact ⟨0, by omega, rfl, (fun y hy => by cases hy), Kp.refl _ _⟩
  case round =>
    obtain ⟨k, hk, rfl, ha, hkp⟩ := hrel
    have HA := Lib.hid ha; have HKr := Lib.hid hkp
    clear ha hkp
    by_cases hlt : k < n
    · obtain ⟨x, hx⟩ : ∃ x, xs[k]? = some x := ⟨_, List.getElem?_eq_getElem (by rw [HN.out]; exact hlt)⟩
      obtain ⟨B, rfl, hrg⟩ := wait_at (HW.out.keep HKr.out (fun _ _ e => e)) HN.out HL.out k x hx
      have HRG := Lib.hid hrg
      have HX2 := Lib.hid (HL.out x (List.mem_of_getElem? hx))
      have HX := Lib.hid hx
      have HP := Lib.hid (pred_any x gi i wr (by rw [HKr.out.cell HI.out.2 (fun e => e)]; exact HI.out.1) (Nat.lt_of_lt_of_le HI.out.2 HKr.out.size))
      clear hx hrg
      by_cases hxi : x.1 = i
      · rw [decide_eq_true hxi] at HP
        have HXI := Lib.hid hxi
        clear hxi
        go_wp2_with (first
          | (refine wpList_load_mid rfl 60 (.tmp 14) rfl B (k * 257) rfl (wcell x) _ HRG.out wr_under rfl (wr_size' x HX2.out) ?_)
          | (go_at_call 29; refine HP.out.mono ?_; rintro e w2 ⟨rfl, k2⟩; have HK2 := Lib.hid k2; clear k2))
        go_ret
        exact ⟨_, rfl, .inl ⟨k, x, rfl, HX.out, HXI.out, HA.out⟩, HKr.out.trans HK2.out (fun _ e => e.elim)⟩
      · rw [decide_eq_false hxi] at HP
        have HXI := Lib.hid hxi
        clear hxi
        go_wp2_with (first
          | (refine wpList_load_mid rfl 60 (.tmp 14) rfl B (k * 257) rfl (wcell x) _ HRG.out wr_under rfl (wr_size' x HX2.out) ?_)
          | (go_at_call 29; refine HP.out.mono ?_; rintro e w2 ⟨rfl, k2⟩; have HK2 := Lib.hid k2; clear k2))
        refine ⟨⟨k + 1, hlt, by go_num, ?_, HKr.out.trans HK2.out (fun _ e => e.elim)⟩, by simp [intOf]; omega⟩
        rw [take_snoc xs k x HX.out]
        intro y hy
        rcases List.mem_append.1 hy with h | h
        · exact HA.out y h
        · rw [List.mem_singleton.1 h]; exact HXI.out
    · obtain rfl : k = n := by omega
      clear hlt hk
      go_wp2
      go_ret
      exact ⟨-1, rfl, .inr ⟨rfl, by have := HA.out; rwa [List.take_of_length_le (by rw [HN.out]; exact Nat.le_refl _)] at this⟩, HKr.out⟩

theorem run_slice_fromK {P : Program} (t e : TypeId) (sz : Nat) (ht : P.underlying t = some (.slice e)) (he : ∀ w, (sizeOf e).run P w = .ok sz w) (g n c k : Nat) (hk : k ≤ n) (hc : k < c) (w : World) :
    (Instr.slice t (.slice (some ⟨g, 0, none⟩) n c) (some (.int .i64 k)) none none).run P w = .ok (.slice (some ⟨g, k * sz, none⟩) (n - k) (c - k)) w := by
  have h1 : (0 : Int) ≤ k ∧ (k : Int) ≤ n := by omega
  have h2 : c ≠ k := by omega
  have h3 : (⟨g, 0, none⟩ : Addr).add (k * sz) = ⟨g, k * sz, none⟩ := by rw [Addr.add_mid, Nat.zero_add]
  simp [Instr.slice, run_underlying ht, Instr.sliceBounds, run_sliceBound, he, hk, h2, h3]
theorem run_slice_toK {P : Program} (t e : TypeId) (sz : Nat) (ht : P.underlying t = some (.slice e)) (he : ∀ w, (sizeOf e).run P w = .ok sz w) (g n c k : Nat) (hk : k ≤ n) (hc : n ≤ c) (w : World) :
    (Instr.slice t (.slice (some ⟨g, 0, none⟩) n c) none (some (.int .i64 k)) none).run P w = .ok (.slice (some ⟨g, 0, none⟩) k c) w := by
  have h1 : (0 : Int) ≤ k ∧ (k : Int) ≤ c := by omega
  have h3 : (⟨g, 0, none⟩ : Addr).add 0 = ⟨g, 0, none⟩ := rfl
  simp [Instr.slice, run_underlying ht, Instr.sliceBounds, run_sliceBound, he, h1]
  exact fun _ => rfl
/-- Elements of several cells, cleared. -/
theorem wpList_clear_mid {P : Program} {w : World} {ops : Array Oper} {rest : List Oper} {o : Oper} {a : Act} {Q : Exit → Act → World → Prop} (hgd : o.guard = none) (s : Operand) (sT : TypeId)
    (ho : o.op = .call { callee := .builtin .clear, args := #[s], argTypes := #[sT] }) (elem : TypeId) (hu : P.underlying sT = some (.slice elem)) (z : List Value) (hv : ∀ w, (zeroValue elem).run P w = .ok (.agg z.toArray) w) (h1 : ∀ v ∈ z, v.oneCell' = true) (hz0 : 0 < z.length)
    (g off n c : Nat) (hn : 0 < n) (hs : a.eval s = .slice (some ⟨g, off, none⟩) n c) (cur : List Value) (t : TypeId) (hg : Blk w g t cur) (hfit : off + n * z.length ≤ cur.length)
    (h : ∀ w' vs, vs.length = n * z.length → Blk w' g t (splice cur off vs) → Kp (oneB g) w w' → w'.heap.size = w.heap.size → wpList P ops Q rest (a.put o.dst (.tuple #[])) w') : wpList P ops Q (o :: rest) a w := by
  refine wpList_plain hgd fun K hK => ?_
  have hl : (Builtin.zeroCells z.toArray n).toList.length = n * z.length := by
    rw [Array.length_toList, size_zeroCells, List.size_toArray]
  have hone : ∀ v ∈ (Builtin.zeroCells z.toArray n).toList, v.oneCell' = true := by
    intro v hv
    simp only [Builtin.zeroCells, Array.toList_map, List.mem_map] at hv
    obtain ⟨i, _, rfl⟩ := hv
    have hlt : i % z.toArray.size < z.toArray.size := Nat.mod_lt _ (by simpa using hz0)
    rw [getElem!_pos z.toArray _ hlt]
    exact h1 _ (by rw [List.getElem_toArray]; exact List.getElem_mem _)
  have hst := run_storeCells_at P g off t (Builtin.zeroCells z.toArray n).toList 0 cur.toArray w hg (by rw [hl]; simpa using hfit) hone
  simp only [Nat.add_zero] at hst
  obtain ⟨m, rfl⟩ : ∃ m, n = m + 1 := ⟨n - 1, by omega⟩
  have hrun : (Builtin.clear_ #[sT] o.type #[.slice (some ⟨g, off, none⟩) (m + 1) c]).run P w = .ok (.tuple #[]) (w.setRow g (splice cur off (Builtin.zeroCells z.toArray (m + 1)).toList).toArray) := by
    simp [Builtin.clear_, run_underlying hu, hv, Value.cells, hst, splice, Result.andThen]
  unfold Oper.wp
  simp [execOp, ho, resolve, invoke, builtin, hs, hrun, Result.andThen]
  exact hK _ _ (h _ _ hl (show _ = _ by simpa using setRow_heap w g _ _ t _ hg) (setRow_kp _ _ _) (by simp [World.setRow]))
end Go.Proofs.Ytfbdjjcnibgjnaa.Disk
