/- FieldOrders: products don't hang on the order, nor on how they are put together; sums are multiplied one by one; a product is 0 only if an element is. -/
import Derived.Test.YthfnfheomelncaaDoorFieldL
namespace Go.Proofs.YthfnfheomelncaaDoor.Field
open Go Go.RowKit Kit

set_option maxHeartbeats 2000000 in
theorem orders_yes (a b c : UInt8) (w : World) (ht : Sq w) :
    Calls Tryd.prog 5 #[.int .u8 (cb a), .int .u8 (cb b), .int .u8 (cb c)] w fun e w' => e = .returned (.bool true) ∧ Kp nob w w' := by
  have H1 := Lib.hid (tm_comm b a)
  have H2 := Lib.hid (tm_assoc a b c)
  have H3 := Lib.hid (show tm (tm c b) a = tm (tm a b) c by rw [tm_comm, tm_comm c b, ← tm_assoc])
  have H4 := Lib.hid (tm_xor a b c)
  obtain ⟨qa, ha⟩ : ∃ q, (cb a == 0) = q := ⟨_, rfl⟩
  obtain ⟨qb, hb⟩ : ∃ q, (cb b == 0) = q := ⟨_, rfl⟩
  have hx : (cb (tm a b) == 0) = (qa || qb) := by
    rw [← ha, ← hb]
    by_cases h : tm a b = 0
    · rcases tm_entire a b h with rfl | rfl
      · rw [zero_tm]; rfl
      · rw [tm_zero]; simp [cb]
    · have h1 : a ≠ 0 := by rintro rfl; exact h (zero_tm _)
      have h2 : b ≠ 0 := by rintro rfl; exact h (tm_zero _)
      rw [ne_zero h, ne_zero h1, ne_zero h2]; rfl
  go_enter Tryd.func5, Tryd.ntmps5
  go_wp2_with fail
  refine (alive_yes _ ht).mono ?_
  rintro e w1 ⟨rfl, k1⟩
  go_wp2_with fail
  refine (times_two a b _ _ _ rfl).mono ?_
  rintro e w2 ⟨rfl, k2⟩
  have K2 := k1.trans k2 (fun _ e => e.elim)
  go_wp2_with fail
  refine (times_two b a _ _ _ rfl).mono ?_
  rintro e w3 ⟨rfl, k3⟩
  rw [H1.out]
  have K3 := K2.trans k3 (fun _ e => e.elim)
  go_wp2_with fail
  refine (times_two (tm a b) c _ _ _ rfl).mono ?_
  rintro e w4 ⟨rfl, k4⟩
  have K4 := K3.trans k4 (fun _ e => e.elim)
  go_wp2_with fail
  refine (times_two b c _ _ _ rfl).mono ?_
  rintro e w5 ⟨rfl, k5⟩
  have K5 := K4.trans k5 (fun _ e => e.elim)
  go_wp2_with fail
  refine (times_two a (tm b c) _ _ _ rfl).mono ?_
  rintro e w6 ⟨rfl, k6⟩
  rw [← H2.out]
  have K6 := K5.trans k6 (fun _ e => e.elim)
  go_wp2_with fail
  refine (times_three a b c _ _ _ rfl).mono ?_
  rintro e w7 ⟨rfl, k7⟩
  have K7 := K6.trans k7 (fun _ e => e.elim)
  go_wp2_with fail
  refine (times_three c b a _ _ _ rfl).mono ?_
  rintro e w8 ⟨rfl, k8⟩
  rw [H3.out]
  have K8 := K7.trans k8 (fun _ e => e.elim)
  go_wp2_with fail
  refine (times_two a (b ^^^ c) _ _ _ rfl).mono ?_
  rintro e w9 ⟨rfl, k9⟩
  rw [H4.out]
  have K9 := K8.trans k9 (fun _ e => e.elim)
  go_wp2_with fail
  refine (times_two a c _ _ _ rfl).mono ?_
  rintro e w10 ⟨rfl, k10⟩
  have K10 := K9.trans k10 (fun _ e => e.elim)
  cases qa <;> cases qb <;> simp only [Bool.or_false, Bool.or_true, Bool.or_self] at hx <;> (go_wp2; go_ret; exact ⟨rfl, K10⟩)
theorem orders_walk (n m o : Int) (w : World) (ht : Sq w) (h0 : (Lit.int .u8 n).wf = true) (h1 : (Lit.int .u8 m).wf = true) (h2 : (Lit.int .u8 o).wf = true) :
    Calls Tryd.prog 5 #[.int .u8 n, .int .u8 m, .int .u8 o] w fun e w' => e = .returned (.bool true) ∧ Kp nob w w' := by
  obtain ⟨a, rfl⟩ := of_wf h0
  obtain ⟨b, rfl⟩ := of_wf h1
  obtain ⟨c, rfl⟩ := of_wf h2
  exact orders_yes a b c w ht
end Go.Proofs.YthfnfheomelncaaDoor.Field
