/- Package vault: a new vault over a world. · More on blocks known whole: a slice literal of one element of several cells; a row made by it. No program is named here. · More on blocks known whole: one loaded behind a guard that says yes. No program is named here. -/
import Derived.Test.YtmmpmncioifeoaaZG08
import Derived.Test.YtmmpmncioifeoaaZG06
import Derived.Handy
namespace Go.Proofs.Ytmmpmncioifeoaa.Vault
set_option linter.unusedVariables false
set_option linter.unusedSimpArgs false
open Go Go.RowKit Kit

theorem key_size (l : List UInt8) (h : l.length = 32) : (Try.prog.info? 28).map (·.size) = some (bvs l).length := by rw [bvs_length, h]; kernel_rfl
theorem exec_build {P : Program} {a : Act} {o : Oper} {w w' : World} (t : TypeId) (fs : Array (Nat × Operand)) (ho : o.op = .build t fs) (ps : List (Nat × Value)) (r : Value) (hp : fs.toList.map (fun p => (p.1, a.eval p.2)) = ps) (h : (Instr.build t ps.toArray).run P w = .ok r w') : (execOp a.eval o).run P w = .ok (.value r) w' := by
  subst hp
  have e : (fs.map fun p => (p.1, a.eval p.2)) = (fs.toList.map (fun p => (p.1, a.eval p.2))).toArray := by rw [← Array.toList_map, Array.toArray_toList]
  rw [← e] at h
  simp [execOp, ho, h, Result.andThen]
/-- What makes things of a world at p. -/
def imk (p : Nat) : Value := .iface 45 (.agg #[.pointer (some ⟨p, 0, none⟩)])
/-- A new vault's two blocks. -/
theorem vb_new (w : World) (v m : Nat) (T : TypeId) (u : Value) (ms : List UInt8) (lim : Nat) (h : ms.length = 32) (hm : m = w.heap.size + 1) (hv : v = w.heap.size + 1 + 1) :
    Vb ((((w.alloc (.cells (bvs ms).toArray 28)).alloc (.map #[] 0)).alloc (.cells (vcells (.iface T u) ms lim m 0).toArray 62))) v m (.iface T u) ms lim [] 0 := by
  subst hm; subst hv
  refine ⟨Blk.new' (by simp) rfl, h, ?_, by omega⟩
  have := mapB_new (w.alloc (.cells (bvs ms).toArray 28))
  rw [show (w.alloc (.cells (bvs ms).toArray 28)).heap.size = w.heap.size + 1 by simp] at this
  exact this.keep ((Kp.refl nob _).alloc _) (fun e => e)
set_option maxHeartbeats 1000000 in
set_option maxRecDepth 100000 in
theorem newVault_any (T : TypeId) (u : Value) (ms : List UInt8) (lim : Int) (w : World) (h : ms.length = 32) :
    Calls Try.prog 17 #[.iface T u, .agg (bvs ms).toArray, .int .i64 lim] w fun e w' => ∃ v m, e = .returned (.pointer (some ⟨v, 0, none⟩)) ∧ Vb w' v m (.iface T u) ms lim.toNat [] 0 ∧ Kp nob w w' ∧ w.heap.size ≤ v ∧ w.heap.size ≤ m := by
  have HM := Lib.hid h
  have HB := Lib.hid (Blk.new w 28 (bvs ms))
  have hm := @run_makeMap Try.prog
  clear h
  by_cases hn : lim < 0
  · obtain ⟨L, hL⟩ : ∃ L, L = lim.toNat := ⟨_, rfl⟩
    obtain rfl : L = 0 := by omega
    rw [← hL]
    have HV := Lib.hid (vb_new w _ _ T u ms 0 HM.out rfl rfl)
    clear hL
    go_enter Try.func17, Try.ntmps17
    go_wp2_with (first
      | (refine wpList_load_blk rfl 28 (.tmp 4) rfl _ _ _ HB.out rfl _ key_under rfl (key_size ms HM.out) ?_)
      | (refine wpList_built rfl 62 _ rfl (.agg (vcells (.iface T u) ms 0 (w.heap.size + 1) 0).toArray) (by exact exec_build _ _ rfl [(0, .iface T u), (1, .agg (bvs ms).toArray), (2, .int .i64 ((0 : Nat) : Int)), (3, .map (some (w.heap.size + 1)))] _ rfl (build_vault ms HM.out T u 0 (w.heap.size + 1) _)) ?_)
      | fail)

    go_ret
    exact ⟨w.heap.size + 1 + 1, w.heap.size + 1, rfl, HV.out, (((Kp.refl _ _).alloc _).alloc _).alloc _, by omega, by omega⟩
  · obtain ⟨L, rfl⟩ : ∃ L : Nat, lim = L := ⟨lim.toNat, by omega⟩
    rw [Int.toNat_natCast]
    have HV := Lib.hid (vb_new w _ _ T u ms L HM.out rfl rfl)
    go_enter Try.func17, Try.ntmps17
    go_wp2_with (first
      | (refine wpList_load_blk rfl 28 (.tmp 4) rfl _ _ _ HB.out rfl _ key_under rfl (key_size ms HM.out) ?_)
      | (refine wpList_built rfl 62 _ rfl (.agg (vcells (.iface T u) ms L (w.heap.size + 1) 0).toArray) (by exact exec_build _ _ rfl [(0, .iface T u), (1, .agg (bvs ms).toArray), (2, .int .i64 (L : Int)), (3, .map (some (w.heap.size + 1)))] _ rfl (build_vault ms HM.out T u L (w.heap.size + 1) _)) ?_)
      | fail)
    go_ret
    exact ⟨w.heap.size + 1 + 1, rfl, w.heap.size + 1, HV.out, (((Kp.refl _ _).alloc _).alloc _).alloc _, by omega, by omega⟩
set_option maxHeartbeats 1000000 in
set_option maxRecDepth 100000 in
theorem ideal_any (p : Nat) (ms : List UInt8) (lim : Int) (w : World) (h : ms.length = 32) :
    Calls Try.prog 7 #[.pointer (some ⟨p, 0, none⟩), .agg (bvs ms).toArray, .int .i64 lim] w fun e w' => ∃ v m, e = .returned (.pointer (some ⟨v, 0, none⟩)) ∧ Vb w' v m (imk p) ms lim.toNat [] 0 ∧ Kp nob w w' ∧ w.heap.size ≤ v ∧ w.heap.size ≤ m := by
  have HM := Lib.hid h
  have HB := Lib.hid (Blk.new w 28 (bvs ms))
  go_enter Try.func7, Try.ntmps7
  go_wp2_with (first
    | (refine wpList_load_blk rfl 28 (.tmp 4) rfl _ _ _ HB.out rfl _ key_under rfl (key_size ms HM.out) ?_)
    | (go_at_call 17; refine (newVault_any _ _ ms lim _ HM.out).mono ?_; rintro e w2 ⟨v, m, rfl, hv, k2, n1, n2⟩)
    | fail)
  go_ret
  simp at n1 n2
  exact ⟨v, m, rfl, hv, ((Kp.refl _ _).alloc _).trans k2 (fun _ e => e.elim), by omega, by omega⟩
end Go.Proofs.Ytmmpmncioifeoaa.Vault
namespace Go.Proofs.Ytmmpmncioifeoaa.Kit
set_option linter.unusedVariables false
set_option linter.unusedSimpArgs false
open Go Go.RowKit
theorem fold_from0 : ∀ (cs : List Value) (i : Nat) (zl : Array Value), zl.size = i + cs.length →
    ((cs.zipIdx i).foldl (fun c x => c.setIfInBounds x.snd x.fst) zl).toList = zl.toList.take i ++ cs := by
  intro cs
  induction cs with
  | nil =>
    intro i zl h
    simp only [List.length_nil, Nat.add_zero] at h
    simp only [List.zipIdx_nil, List.foldl_nil, List.append_nil]
    rw [List.take_of_length_le (by rw [Array.length_toList]; omega)]
  | cons u cs ih =>
    intro i zl h
    simp only [List.length_cons] at h
    rw [List.zipIdx_cons, List.foldl_cons, ih (i + 1) _ (by simp; omega)]
    simp only [Array.toList_setIfInBounds]
    rw [List.take_succ_eq_append_getElem (by simp; omega), List.take_set_of_le (Nat.le_refl _)]
    simp
/-- What a slice literal of one array, or struct, leaves in the world. -/
theorem fold_all (cs : List Value) (zl : Array Value) (h : zl.size = cs.length) : cs.zipIdx.foldl (fun c x => c.setIfInBounds x.snd x.fst) zl = cs.toArray := by
  apply Array.toList_inj.1
  have := fold_from0 cs 0 zl (by omega)
  rw [this]; simp
theorem ownK_new (w : World) (k n : Nat) (e : TypeId) (xs : List Value) (hx : xs.length = n * k) (hm : n ≤ maxLen) : OwnK k e (w.alloc (.cells xs.toArray e)) (some ⟨w.heap.size, 0, none⟩) n n xs :=
  ⟨hx, .inr ⟨w.heap.size, n, xs.toArray, rfl, Nat.zero_le _, heap_alloc_new w _, Nat.le_refl _, hm, by simpa using hx, by simp [← hx]⟩⟩
theorem info_parts3 {P : Program} {t : TypeId} {z : Value} {s b : Nat} (h : (P.info? t).map (fun i => (i.zero, i.size, i.bytes)) = some (some z, s, b)) : ∃ i, P.info? t = some i ∧ i.zero = some z ∧ i.size = s ∧ i.bytes = b := by
  cases hq : P.info? t with
  | none => rw [hq] at h; cases h
  | some i =>
    rw [hq] at h
    simp only [Option.map_some, Option.some.injEq, Prod.mk.injEq] at h
    exact ⟨i, rfl, h.1, h.2.1, h.2.2⟩
end Go.Proofs.Ytmmpmncioifeoaa.Kit
namespace Go.Proofs.Ytmmpmncioifeoaa.Kit
set_option linter.unusedVariables false
set_option linter.unusedSimpArgs false
open Go Go.RowKit
theorem wpList_load_gd {P : Program} {ops : Array Oper} {rest : List Oper} {op : Oper} {a : Act} {w : World} {Q : Exit → Act → World → Prop} (ty : TypeId) (x : Operand) (ho : op.op = .load ty x)
    (hw : Region.wanted op (yielded ops a.tmps) = true)
    (g : Nat) (t : TypeId) (cs : List Value) (hB : Blk w g t cs) (hx : a.eval x = .pointer (some ⟨g, 0, none⟩)) (d : TypeDesc) (hu : P.underlying ty = some d) (hd : d.isRow = true) (hi : (P.info? ty).map (·.size) = some cs.length)
    (h : wpList P ops Q rest (a.put op.dst (.agg cs.toArray)) w) : wpList P ops Q (op :: rest) a w :=
  wpList_step fun K hK => by
    rw [if_pos hw]
    exact wp_load_mid ty x ho g 0 hx cs d hB.range hu hd hi (hK _ _ h)
end Go.Proofs.Ytmmpmncioifeoaa.Kit
