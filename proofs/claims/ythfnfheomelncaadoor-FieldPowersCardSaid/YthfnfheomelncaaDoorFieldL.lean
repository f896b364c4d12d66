/- The laws of layer 5 on package field: what each call answers. -/
import Derived.Test.YthfnfheomelncaaDoorFieldB
import Derived.Test.YthfnfheomelncaaDoorFieldV
namespace Go.Proofs.YthfnfheomelncaaDoor.Field
open Go Go.RowKit Kit

theorem own_new (w : World) (e : TypeId) (xs : List Value) (hm : xs.length ≤ maxLen) : Own e (w.alloc (.cells xs.toArray e)) (some ⟨w.heap.size, 0, none⟩) xs.length xs.length xs :=
  ⟨by simp, .inr ⟨w.heap.size, xs.length, xs.toArray, rfl, Nat.zero_le _, heap_alloc_new w _, Nat.le_refl _, hm, by simp, by simp⟩⟩
theorem own_one (w : World) (e : TypeId) (v : Value) : Own e (w.alloc (.cells #[v] e)) (some ⟨w.heap.size, 0, none⟩) 1 1 [v] := own_new w e [v] (by simp [maxLen])
theorem u8s_info : (Tryd.prog.info? 5).map (fun i => (i.zero, i.size, i.bytes)) = some (some (.int .u8 0), 1, 1) := by kernel_rfl
theorem u8s_under : Tryd.prog.underlying 22 = some (.slice 5) := by kernel_rfl
theorem eq_cb (a : UInt8) : (cb a == cb a) = true := beq_self_eq_true _
theorem ne_zero {a : UInt8} (h : a ≠ 0) : (cb a == 0) = false := beq_eq_false_iff_ne.2 (fun e => h (cb_inj.1 (e.trans (show (0 : Int) = cb 0 from rfl))))
theorem of_wf {n : Int} (h : (Lit.int .u8 n).wf = true) : ∃ a : UInt8, n = cb a := by
  have h3 : IntKind.u8.min ≤ n ∧ n ≤ IntKind.u8.max := by simpa [Lit.wf] using h
  have h4 : IntKind.u8.min = 0 := by kernel_rfl
  have h5 : IntKind.u8.max = 255 := by kernel_rfl
  exact of_cb n (by omega)
set_option maxHeartbeats 1000000 in
theorem alive_yes (w : World) (ht : Sq w) :
    Calls Tryd.prog 8 #[] w fun e w' => e = .returned (.bool true) ∧ Kp nob w w' := by
  have h1 : cb (tm 87 131) = 193 := by decide +kernel
  have h2 : cb (box 83) = 237 := by decide +kernel
  go_enter Tryd.func8, Tryd.ntmps8
  go_wp2_with fail
  refine (times_two 87 131 w _ _ rfl).mono ?_
  rintro e w1 ⟨rfl, k1⟩
  rw [h1]
  go_wp2_with fail
  refine (box_any 83 _ (ht.keep0 k1)).mono ?_
  rintro e w2 ⟨rfl, k2⟩
  rw [h2]
  go_wp2
  go_ret
  exact ⟨rfl, k1.trans k2 (fun _ e => e.elim)⟩
end Go.Proofs.YthfnfheomelncaaDoor.Field
