/- FieldInverts: the inverse is the document's, the product with it is 01, and that of it is the byte again. -/
import Derived.Test.YthfnfheomelncaaDoorFieldL
namespace Go.Proofs.YthfnfheomelncaaDoor.Field
open Go Go.RowKit Kit

set_option maxHeartbeats 2000000 in
theorem inverts_zero (w : World) (ht : Sq w) :
    Calls Tryd.prog 4 #[.int .u8 (cb 0)] w fun e w' => e = .returned (.bool true) ∧ Kp nob w w' := by
  have d0 : (cb 0 == 0) = true := rfl
  go_enter Tryd.func4, Tryd.ntmps4
  go_wp2_with fail
  refine (alive_yes _ ht).mono ?_
  rintro e w1 ⟨rfl, k1⟩
  go_wp2_with fail
  refine (inverse_any 0 _ (ht.keep0 k1)).mono ?_
  rintro e w2 ⟨rfl, k2⟩
  rw [inv_zero]
  have K2 := k1.trans k2 (fun _ e => e.elim)
  go_wp2_with fail
  refine (fInverse 0 _).mono ?_
  rintro e w3 ⟨rfl, rfl⟩
  rw [inv_zero]
  go_wp2_with fail
  refine (inverse_any 0 _ (ht.keep0 K2)).mono ?_
  rintro e w3 ⟨rfl, k3⟩
  rw [inv_zero]
  go_wp2
  go_ret
  exact ⟨rfl, K2.trans k3 (fun _ e => e.elim)⟩
set_option maxHeartbeats 2000000 in
theorem inverts_yes (a : UInt8) (h : a ≠ 0) (w : World) (ht : Sq w) :
    Calls Tryd.prog 4 #[.int .u8 (cb a)] w fun e w' => e = .returned (.bool true) ∧ Kp nob w w' := by
  have d0 := ne_zero h
  have d1 : (cb a != 0) = true := by rw [bne, d0]; rfl
  have hne : ¬ cb a = 0 := fun e => h (cb_inj.1 (e.trans (show (0 : Int) = cb 0 from rfl)))
  have HI := Lib.hid (tm_inv a h)
  have HJ := Lib.hid (inv_inv a)
  clear h
  go_enter Tryd.func4, Tryd.ntmps4
  go_wp2_with fail
  refine (alive_yes _ ht).mono ?_
  rintro e w1 ⟨rfl, k1⟩
  go_wp2_with fail
  refine (inverse_any a _ (ht.keep0 k1)).mono ?_
  rintro e w2 ⟨rfl, k2⟩
  have K2 := k1.trans k2 (fun _ e => e.elim)
  go_wp2_with fail
  refine (fInverse a _).mono ?_
  rintro e w3 ⟨rfl, rfl⟩
  go_wp2_with fail
  refine (times_two a (inv a) _ _ _ rfl).mono ?_
  rintro e w3 ⟨rfl, k3⟩
  rw [HI.out, cb_one]
  have K3 := K2.trans k3 (fun _ e => e.elim)
  go_wp2_with fail
  refine (inverse_any (inv a) _ (ht.keep0 K3)).mono ?_
  rintro e w4 ⟨rfl, k4⟩
  rw [HJ.out]
  go_wp2
  go_ret
  exact ⟨rfl, K3.trans k4 (fun _ e => e.elim)⟩
theorem inverts_walk (n : Int) (w : World) (ht : Sq w) (h0 : (Lit.int .u8 n).wf = true) :
    Calls Tryd.prog 4 #[.int .u8 n] w fun e w' => e = .returned (.bool true) ∧ Kp nob w w' := by
  obtain ⟨a, rfl⟩ := of_wf h0
  by_cases h : a = 0
  · subst h; exact inverts_zero w ht
  · exact inverts_yes a h w ht
end Go.Proofs.YthfnfheomelncaaDoor.Field
